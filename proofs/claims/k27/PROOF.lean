import PyProof.Rows.All
import Wide.All
import OpenK.AllK
import Wide.FinOn
import HandS.Base
import HandS.Call
import HandS.List
import HandS.Comp
import HandS.Ends
import HandS.Dict
import HandS.Iter
import HandS.Text
import HandS.Words
import PyProof.AutoSeq1
import PyProof.ReprRoads
import PyProof.CallFns
import HandS.IsInst
import HandS.Flow
import HandS.Style
import PyProof.FitsInt
import PyProof.StrLawsRepr
import HandS.Strs
import HandS.Zip
import HandS.Rev
import KE.GoesMore
import PyProof.EnumMake
import PyProof.Draws
import HandS.NoneIn
import KE.SortData
import HandS.Conv
import KE.DataCmp
import KE.DataMinMax
import PyProof.Rows.RowBridgeK
import KE.DataFind
import HandS.SetFor
import PyProof.Rows.CallKwBuiltin
import HandS.DictComp
import PyProof.DictUpdate
import HandS.Star
import HandS.Deep
import HandS.AnyAll
import HandS.GenOver
import PyProof.GenQ
import PyProof.ConsumeS
import HandS.EndTab
import KE.KStrOpen
import PyProof.ListStr
import PyProof.StrOps2
import KE.KxField
import HandS.FStr
import HandS.More
import KE.KRevSl
import HandS.Exc
import HandS.ExcInit
import HandS.ExcField
import HandS.ExcIs
import HandS.ExcOwn
import HandS.TryOnly
import HandS.WordsExc
import KE.KExcIs
import PyProof.IsRules
import HandS.RaiseMore
import HandS.ExcValue
import HandS.Small
import PySem.Challenge.RW_wagoncalls_k27_trees_of_posts_by_any_han
set_option Elab.async false
set_option linter.all false
set_option maxRecDepth 100000
set_option maxHeartbeats 4000000
/-! Wagon, part 1: promises of defs that are called where no repr runs (so that what repr tells is known). -/
namespace Wg
open PySem PySem.Spec PyProof.Rows L2

/-- room for calls, and no repr under way -/
structure Rm (k : Nat) (A : Around) : Prop where
  rm : Room k A
  gd : A.guards = some []
theorem Rm.mono {j k : Nat} {A : Around} (r : Rm k A) (h : j ≤ k) : Rm j A := ⟨r.rm.mono h, r.gd⟩
theorem Rm.deep {k : Nat} {A : Around} (r : Rm (k + 1) A) (v : Env) : Rm k (A.deeper v) := ⟨r.rm.deeper v, r.gd⟩

/-- the def at f keeps the promise sp -/
structure Keeps (P : Program) (w : World) (K : PySem.W.Frag) (mg : Str → Option Value) (b : Heap) (CX : CXT) (k : Nat) (f : Addr) (fd : FuncData) (ps : List Str) (sp : Sp) : Prop where
  len : ∀ vs H Q E, sp vs H Q E → vs.length = ps.length
  run : ∀ (A : Around) (o : List Env) (s : Shared) (H : Hp) (g : Args) (us : List Value) (vs : List V) (Q : VK) (E : XK),
    Rm k A → Env0 P w K mg b A o s H → BindsTo s fd g (ps.zip us) → Vals vs us → sp vs H Q E →
      codeAny (model P w) A (.call (.ref f) g) (CR CX o P w H s Q E) s
theorem Keeps.up {P : Program} {w : World} {K : PySem.W.Frag} {mg : Str → Option Value} {b : Heap} {CX : CXT} {j k : Nat} {f : Addr} {fd : FuncData} {ps : List Str} {sp : Sp}
    (F : Keeps P w K mg b CX j f fd ps sp) (h : j ≤ k) : Keeps P w K mg b CX k f fd ps sp :=
  ⟨F.len, fun A o s H g us vs Q E hr => F.run A o s H g us vs Q E (hr.mono h)⟩
theorem Keeps.weak {P : Program} {w : World} {K : PySem.W.Frag} {mg : Str → Option Value} {b : Heap} {CX : CXT} {k : Nat} {f : Addr} {fd : FuncData} {ps : List Str} {sp sp' : Sp}
    (F : Keeps P w K mg b CX k f fd ps sp) (h : ∀ vs H Q E, sp' vs H Q E → sp vs H Q E) : Keeps P w K mg b CX k f fd ps sp' :=
  ⟨fun vs H Q E q => F.len vs H Q E (h _ _ _ _ q), fun A o s H g us vs Q E h1 h2 h3 h4 h5 => F.run A o s H g us vs Q E h1 h2 h3 h4 (h _ _ _ _ h5)⟩

section
variable {X : Cx} {CX : CXT} {k : Nat} {f : Addr} {fd : FuncData} {ps : List Str} {sp : Sp} {E : XK} {x : Str} {p pos : Pos} {e : Expr} {es : List Expr} {t : TA}
theorem go_fn {pins : List (Addr × Obj)} {σ : L2.St} {H : Hp} {s : Shared} {Q : VK} {us : List Value} {vs : List V}
    (F : Keeps X.prog X.w X.K X.mg X.base CX k f fd ps sp) (hr : Rm k X.A) (hb : Binds X.K fd ps []) (hx : Passes CX X E)
    (I : Inv X pins σ H s) (r : Vals vs us) (h : sp vs H Q E) : wpAny (model X.prog X.w) X.A (call (.ref f) us) (EP X pins σ Q) X.xe s := by
  have hl : (us ++ []).length = ps.length := by
    rw [List.append_nil, ← r.length]
    exact F.len _ _ _ _ h
  have hbs := hb s us I.kIn hl
  rw [List.append_nil] at hbs
  have run := F.run X.A X.stack s H ⟨us, []⟩ us vs Q E hr I.env0 hbs r h
  refine wpAny_call (codeAny_mono run fun res s' hq => ?_)
  match res, hq with
  | .error e, hq => exact hx pins σ H s e s' I hq
  | .ok (.ret u), hq => exact I.after hq
  | .ok .next, hq => exact hq.elim
  | .ok .brk, hq => exact hq.elim
  | .ok .cont, hq => exact hq.elim
/-- f(e, ..), f a def of the text -/
def tGo (sp : Sp) (E : XK) (t : TA) : TE := fun σ H Q => t σ H fun vs H1 => sp vs H1 Q E
theorem pe_go (F : Keeps X.prog X.w X.K X.mg X.base CX k f fd ps sp) (hr : Rm k X.A) (hg : Gl X x) (hm : X.mg x = some (.ref f)) (hk : PySem.W.keepIn X.K (.ref f) = true)
    (hb : Binds X.K fd ps []) (hx : Passes CX X E) (ha : PA X (e :: es) t) (hdb : (x == ("__debug__" : Str)) = false := by decide)
    (he : starEach (e :: es) X.env = (false, eval e X.env) :: starEach es X.env := by rfl) (hpl : (backTo pos (starEach es X.env)).any (·.1) = false := by rfl) :
    PE X (.Call (.Name x p) (e :: es) [] pos) (tGo sp E t) := by
  constructor
  intro pins s σ H Q I h
  refine wpAny_Call_Name_kw (ld_glob I hg hm ?_ hdb)
  have args := ha.run pos pins s σ H _ I h
  refine PySem.W.callWith_K (h₀ := X.base) I.ok.mod.kin hk (thn args fun us s1 hh => ?_) he hpl
  obtain ⟨vs, H1, I1, r, q⟩ := hh
  exact ⟨I1.kIn, go_fn F hr hb hx I1 r q⟩
theorem pe_go0 (F : Keeps X.prog X.w X.K X.mg X.base CX k f fd ps sp) (hr : Rm k X.A) (hg : Gl X x) (hm : X.mg x = some (.ref f)) (hk : PySem.W.keepIn X.K (.ref f) = true)
    (hb : Binds X.K fd ps []) (hx : Passes CX X E) (hdb : (x == ("__debug__" : Str)) = false := by decide) : PE X (.Call (.Name x p) [] [] pos) (tGo sp E tNil) := by
  constructor
  intro pins s σ H Q I h
  refine wpAny_Call_Name_kw (ld_glob I hg hm ?_ hdb)
  exact PySem.W.callWith_K0 I.kIn hk (go_fn (us := []) F hr hb hx I .nil h)
end

section
variable {P : Program} {w : World} {K : PySem.W.Frag} {mg : Str → Option Value} {b : Heap}
/-- a def keeps its promise, by its body -/
theorem keeps_of {CX : CXT} {x qual : Str} {st : Stmt} {f : Addr} {fd : FuncData} {N ps : List Str} {k : Nat} {sp : Sp} (F : Fun K x qual st f fd) (S : FnScope N ps (defScope st))
    (len : ∀ vs H Q E, sp vs H Q E → vs.length = ps.length)
    (body : ∀ (cdv : Value) (A : Around) (o : List Env) (s : Shared) (H : Hp) (vs : List V) (Q : VK) (E : XK), Rm k (A.deeper (envOfC qual (defScope st) s.heap.objs.size f cdv)) → sp vs H Q E →
      ∃ t, PSs (cxOf CX P w K mg b N qual (defScope st) f cdv A o s H E) (defBody st) t ∧ t { nx := fun _ H' => Q .non H', rt := Q } (start N vs) H) :
    Keeps P w K mg b CX (k + 1) f fd ps sp := by
  obtain ⟨oc, od, kV, doc, pm, an, cdv, ct, osl, rfl, lk, hcd⟩ := F.ex
  constructor
  · exact len
  intro A o s H g us vs Q E hr e0 hb r hsp
  have hl := len _ _ _ _ hsp
  have up : ∀ {a : Addr} {ob : Obj}, b.get? a = some ob → s.heap.get? a = some ob := fun {a ob} q => (e0.bs a ob q).1
  have inK : K.In s.heap := e0.mod.kin.keeps fun _ _ q => up q
  have nolim : s.heap.NoLimit := e0.mod.nolimit.keeps fun _ _ q => up q
  have kinds : ∀ y ∈ ps.zip us, (defScope st).names.lookup y.1 = some .local ∨ ((defScope st).names.lookup y.1 = some .cell ∧ ((cellsFrom (s.heap.objs.size + 1) (defScope st).names []).lookup y.1).isSome = true) := by
    rintro ⟨n, v⟩ hy
    have hn := S.par n (List.of_mem_zip hy).1
    exact hn.imp id fun q => ⟨q, PySem.W.cellsFrom_some _ _ _ (.inl q)⟩
  have recd := PySem.W.codeRec_of inK hcd
  refine codeAny_call_function hr.rm.depth (inK _ _ lk) rfl S.co S.gen rfl recd (hb _ _ _ _ ?_)
  refine wpAny_newFunctionEnv_cells S.kind kinds ?_
  intro env he s1 y
  subst he
  refine ⟨nolim.keeps y.toInCall.keep, codeAny_func ?_⟩
  obtain ⟨t, ht, hq⟩ := body cdv A o s H vs Q E (hr.deep _) hsp
  have I := inv_start (CX := CX) (E := E) S hr.rm.hd e0 hl r y
  refine wpAny_mono (ht.run [] s1 (start N vs) H _ I hq) ?_ fun _ _ q => q
  intro fl s' hs
  match fl, hs with
  | .ret u, hs =>
    obtain ⟨v, σ', H', J, rv, q⟩ := hs
    exact ⟨v, H', J.os, J.bare, J.base, J.hok, rv, q⟩
  | .next, hs =>
    obtain ⟨σ', H', J, q⟩ := hs
    exact ⟨.non, H', J.os, J.bare, J.base, J.hok, rfl, q⟩
  | .brk, hs => exact hs.elim fun _ z => z.elim fun _ y => y.2.elim
  | .cont, hs => exact hs.elim fun _ z => z.elim fun _ y => y.2.elim
theorem keeps0 {x qual : Str} {st : Stmt} {f : Addr} {fd : FuncData} {N ps : List Str} {k : Nat} {sp : Sp} (F : Fun K x qual st f fd) (S : FnScope N ps (defScope st))
    (len : ∀ vs H Q E, sp vs H Q E → vs.length = ps.length)
    (body : ∀ (cdv : Value) (A : Around) (o : List Env) (s : Shared) (H : Hp) (vs : List V) (Q : VK) (E : XK), Rm k (A.deeper (envOfC qual (defScope st) s.heap.objs.size f cdv)) → sp vs H Q E →
      ∃ t, PSs (cxOf CX0 P w K mg b N qual (defScope st) f cdv A o s H E).nox (defBody st) t ∧ t { nx := fun _ H' => Q .non H', rt := Q } (start N vs) H) :
    Keeps P w K mg b CX0 (k + 1) f fd ps sp :=
  keeps_of F S len fun cdv A o s H vs Q E hr h => (body cdv A o s H vs Q E hr h).elim fun t q => ⟨t, q.1.nox, q.2⟩
end

/-- the law's call, from its promise -/
theorem law_end {P : Program} {w : World} {K : PySem.W.Frag} {mg mb : Str → Option Value} {k : Nat} {fa a : Addr} {fd : FuncData} {x : Str} {sp : Sp} {s : Shared} {vs : List Value} {ns : List Int}
    (KX : K.In s.heap) (hns : s.heap.Ns mainGlobals mg) (hb : s.heap.Ns builtinsNs mb) (hbb : ∀ x : Str, x ≠ "__name__" → mb x = bootBuiltins x) (hlim : s.heap.NoLimit) (hg : s.gens = #[])
    (ha : s.heap.get? a = some { cls := .type "list", data := .seq vs.toArray }) (hi : IntsAre vs ns) (hl : ns.length ≤ sizeLine) (hr : Rm k callerA)
    (F : ∀ b : Heap, K.In b → b.Ns mainGlobals mg → Keeps P w K mg b CX0 k fa fd [x] sp) (hbind : ∀ (s : Shared) (u : Value), BindsTo s fd ⟨[u], []⟩ [(x, u)])
    (hsp : ∀ H : Hp, Only H → SqL K H a (ns.map V.int) → sp [.ref a] H (fun v _ => v = .bl true) fun _ _ _ => False) :
    codeAny (model P w) callerA (.call (.ref fa) ⟨[.ref a], []⟩) (fun r s' => r = .ok (.ret (.bool true)) ∧ OldK s.heap s'.heap ∧ s'.os = s.os ∧ AllBare s'.gens) s := by
  -- a promise at callerA alone, dressed as one of the layer's at that place
  have lenV := hi.length
  have rv := vals_ints hi
  suffices core : ∀ H : Hp, Only H → SqL K H a (ns.map V.int) → HOk P w H s.heap → (∀ c, H c ≠ none → c = a) → (H a ≠ none → K.lookup a = none) →
      codeAny (model P w) callerA (.call (.ref fa) ⟨[.ref a], []⟩) (fun r s' => r = .ok (.ret (.bool true)) ∧ OldK s.heap s'.heap ∧ s'.os = s.os ∧ AllBare s'.gens) s by
    match hk : K.lookup a with
    | some o =>
      have eo := (KX a o hk).symm.trans ha
      obtain rfl := Option.some.inj eo
      refine core (fun _ => none) (fun _ => .inl rfl) (.inr ⟨_, vs.toArray, _, hk, rfl, rfl, rfl, ?_, by simpa using rv⟩) ?_ (fun c z => absurd rfl z) (fun z => absurd rfl z)
      · rw [List.size_toArray, lenV]; exact hl
      · intro c u z; exact nomatch z
    | none =>
      let H0 : Hp := fun c => if c = a then some (.frz { cls := .type "list", data := .seq vs.toArray } (.lst (ns.map V.int))) else none
      have at0 : H0 a = some (.frz { cls := .type "list", data := .seq vs.toArray } (.lst (ns.map V.int))) := if_pos rfl
      have ne0 : ∀ c, c ≠ a → H0 c = none := fun c hc => if_neg hc
      refine core H0 (fun c => ?_) (.inl (.inr ⟨_, at0⟩)) (fun c u z => ?_) (fun c z => ?_) fun _ => hk
      · by_cases hc : c = a
        · exact .inr ⟨_, _, by rw [hc]; exact at0⟩
        · exact .inl (ne0 c hc)
      · by_cases hc : c = a
        · subst hc
          obtain rfl := Option.some.inj (at0.symm.trans z)
          exact ⟨ha, by rw [List.length_map]; exact hl, vs, _, rv, ha⟩
        · exact nomatch (ne0 c hc).symm.trans z
      · exact Classical.byContradiction fun hc => z (ne0 c hc)
  intro H hO hS hok hA hK
  have only : ∀ {c : Addr} {u : HO}, H c = some u → c = a := fun {c u} q => hA c (by rw [q]; exact Option.some_ne_none u)
  have stays : ∀ {c : Addr} {o : Obj} {es : Array DictEntry} {ep : Nat}, s.heap.get? c = some o → o.data = .dict es ep → H c = none := by
    intro c o es ep e d
    match q : H c with
    | none => rfl
    | some u =>
      rw [only q, ha] at e
      obtain rfl := Option.some.inj e
      cases (show Data.seq vs.toArray _ = Data.dict es ep from d)
  have ns' : ∀ {c : Addr} {m : Str → Option Value}, s.heap.Ns c m → (hidT s.heap H).Ns c m := by
    rintro c m ⟨o, es, ep, e, d, r⟩
    exact ⟨o, es, ep, hidT_get e (stays e d), d, r⟩
  have kin : K.In (hidT s.heap H) := by
    intro c o e
    refine hidT_get (KX c o e) ?_
    match q : H c with
    | none => rfl
    | some u =>
      have ec := only q
      subst ec
      rw [hK (by rw [q]; exact Option.some_ne_none u)] at e
      cases e
  obtain ⟨mc, l1, l2⟩ := hlim
  have M : Mod K mg (hidT s.heap H) := ⟨kin, ns' hns, ⟨mb, ns' hb, hbb⟩, ⟨mc, ns' l1, l2⟩⟩
  have e0 : Env0 P w K mg (hidT s.heap H) callerA [] s H :=
    ⟨rfl, M, fun c o e => of_hidT e, Nat.le_of_eq (hidT_size _ _), trivial, fun c hc => (List.not_mem_nil hc).elim, hok, .of_eq hg⟩
  have run := (F _ kin (ns' hns)).run callerA [] s H ⟨[.ref a], []⟩ [.ref a] [.ref a] _ _ hr e0 (hbind s (.ref a)) (.cons rfl .nil) (hsp H hO hS)
  refine codeAny_mono run fun res s' hq => ?_
  match res, hq with
  | .error e, hq => exact hq.elim
  | .ok .next, hq => exact hq.elim
  | .ok .brk, hq => exact hq.elim
  | .ok .cont, hq => exact hq.elim
  | .ok (.ret u), hq =>
    obtain ⟨v, H', os, bare, un, hok', r', q⟩ := hq
    obtain rfl : v = .bl true := q
    obtain rfl : u = Value.bool true := r'
    refine ⟨rfl, OldK.of_keep fun c o e => ?_, os, bare⟩
    rcases hO c with z | ⟨ob, xs, z⟩
    · exact un.keep c o e z List.not_mem_nil List.not_mem_nil
    · have z1 := (hok c _ z).1
      have z2 := (hok' c _ (un.frzs c ob _ z)).1
      exact z2.trans (z1.symm.trans e)

theorem walk_end {l : PySem.W.OpenLaw} {n k : Nat} {q : Program} {loose : List Str} {XP : (Str → Option Value) → Heap → Prop} {YP : World → Heap → Prop} {d : DefRec} {K : Params → PySem.W.Frag} {sp : PySem.W.Frag → Sp} {x : Str}
    (hn : l.most = some n) (hn2 : n ≤ sizeLine) (hdf : d.params.defaults = []) (hr : Rm k callerA) (hY : ∀ (w : World) (h : Heap), YP w h → (K w.params).In h)
    (F : ∀ (w : World) (mg : Str → Option Value) (fa : Addr) (h : Heap), (K w.params).In h → h.Ns mainGlobals mg → mg d.name = some (.ref fa) →
      ∃ fd : FuncData, (∀ (s : Shared) (u : Value), BindsTo s fd ⟨[u], []⟩ [(x, u)]) ∧
        ∀ b : Heap, (K w.params).In b → b.Ns mainGlobals mg → Keeps l.prog w (K w.params) mg b CX0 k fa fd [x] (sp (K w.params)))
    (hsp : ∀ (K : PySem.W.Frag) (H : Hp) (a : Addr) (ns : List Int), ns.length ≤ n → Only H → SqL K H a (ns.map V.int) → sp K [.ref a] H (fun v _ => v = .bl true) fun _ _ _ => False) :
    PySem.W.WalkO q loose XP YP l.row.toRowW d [] (fun f vs => PySem.call f vs) := by
  refine Att.attach_call hn hdf ?_
  intro w s₀ s₁ mg mb fa o pm cd doc a vs ns G Y ho hd hcd hmg hobj hints hlen hg
  have kin := hY w _ Y
  obtain ⟨fd, hb, hF⟩ := F w mg fa _ kin G.T.g hmg
  exact law_end kin G.T.g G.T.b G.T.builtins G.T.nolimit hg hobj hints (Nat.le_trans hlen hn2) hr hF hb fun H hO hS => hsp _ H a ns hlen hO hS
end Wg

/-! Wagon, part 2: heaps that are not written out, and the rules of operators, calls and methods in that style. -/
namespace Wg
open PySem PySem.Spec PyProof.Rows L2

/-- all but what stands at S is kept -/
def Keep (S : List Addr) (H H' : Hp) : Prop := ∀ b o, b ∉ S → H b = some o → H' b = some o
theorem Keep.at {S : List Addr} {H H' : Hp} {b : Addr} {o : HO} (k : Keep S H H') (n : b ∉ S) (h : H b = some o) : H' b = some o := k b o n h
theorem Keep.refl (S : List Addr) (H : Hp) : Keep S H H := fun _ _ _ h => h
theorem Keep.trans {S : List Addr} {H H1 H2 : Hp} (a : Keep S H H1) (b : Keep S H1 H2) : Keep S H H2 := fun c o n h => b c o n (a c o n h)
theorem Keep.wide {S T : List Addr} {H H' : Hp} (k : Keep S H H') (h : ∀ b ∈ S, b ∈ T) : Keep T H H' := fun b o n q => k b o (fun z => n (h b z)) q
theorem Keep.all {S : List Addr} {H H' : Hp} (k : Keep [] H H') : Keep S H H' := k.wide fun _ h => (List.not_mem_nil h).elim
theorem Keep.free {S : List Addr} {H H' : Hp} {b : Addr} (k : Keep S H H') (n : b ∉ S) (h : H' b = none) : H b = none := by
  match q : H b with
  | none => rfl
  | some o => exact nomatch h.symm.trans (k b o n q)
theorem Keep.new {S : List Addr} {H : Hp} {p : Addr} {o : HO} (h : H p = none) : Keep S H (upd H p o) := fun b u _ q => by
  rw [upd_ne (ne_of_none q h)]
  exact q
theorem Keep.set {H : Hp} {p : Addr} {o : HO} : Keep [p] H (upd H p o) := fun b u n q => by
  rw [upd_ne (fun z : b = p => n (by rw [z]; exact List.mem_singleton.mpr rfl))]
  exact q
theorem nin0 {b : Addr} : b ∉ ([] : List Addr) := List.not_mem_nil
theorem nin1 {a b : Addr} (h : b ≠ a) : b ∉ [a] := fun z => h (List.mem_singleton.mp z)
/-- a tuple that stands still, of no dict of its own -/
def Tup (H : Hp) (a : Addr) (xs : List V) : Prop := ∃ ob : Obj, H a = some (.frz ob (.tup xs)) ∧ ob.dict = none ∧ ob.slots = #[]
theorem Tup.sq {K : PySem.W.Frag} {H : Hp} {a : Addr} {xs : List V} (h : Tup H a xs) : SqT K H a xs := let ⟨ob, e, _⟩ := h; .inl (.inr ⟨ob, e⟩)
theorem Tup.keep {S : List Addr} {H H' : Hp} {a : Addr} {xs : List V} (h : Tup H a xs) (k : Keep S H H') (n : a ∉ S) : Tup H' a xs := let ⟨ob, e, d⟩ := h; ⟨ob, k a _ n e, d⟩
theorem Tup.inj {H : Hp} {a : Addr} {xs ys : List V} (h : Tup H a xs) (h' : Tup H a ys) : xs = ys := by
  obtain ⟨o1, e1, _⟩ := h
  obtain ⟨o2, e2, _⟩ := h'
  have q := Option.some.inj (e1.symm.trans e2)
  injection q with _ q
  exact HO.tup.inj q
theorem Tup.there {H : Hp} {a : Addr} {xs : List V} (h : Tup H a xs) : ∃ o, H a = some o := let ⟨ob, e, _⟩ := h; ⟨_, e⟩
theorem Tup.neL {H : Hp} {a b : Addr} {xs ys : List V} (h : Tup H a xs) (h' : H b = some (.lst ys)) : a ≠ b := fun z => by
  obtain ⟨o1, e1, _⟩ := h
  rw [z, h'] at e1
  cases e1
theorem Tup.neD {H : Hp} {a b : Addr} {xs : List V} {ys : List (Key × V)} (h : Tup H a xs) (h' : H b = some (.dK ys)) : a ≠ b := fun z => by
  obtain ⟨o1, e1, _⟩ := h
  rw [z, h'] at e1
  cases e1
theorem lst_sq {K : PySem.W.Frag} {H : Hp} {a : Addr} {xs : List V} (h : H a = some (.lst xs)) : SqL K H a xs := .inl (.inl h)
theorem sq_keep {K : PySem.W.Frag} {H H' : Hp} {S : List Addr} {a : Addr} {xs : List V} (h : SqL K H a xs) (k : Keep S H H') (n : a ∉ S) : SqL K H' a xs := by
  rcases h with (h | ⟨o, h⟩) | h
  · exact .inl (.inl (k _ _ n h))
  · exact .inl (.inr ⟨o, k _ _ n h⟩)
  · exact .inr h

/-- a new object o comes -/
def Mk (H : Hp) (o : HO) (Q : VK) : Prop := ∀ p H', H p = none → Keep [] H H' → H' p = some o → Q (.ref p) H'
/-- a new tuple comes -/
def Mt (H : Hp) (xs : List V) (Q : VK) : Prop := ∀ p H', H p = none → Keep [] H H' → Tup H' p xs → Q (.ref p) H'
/-- what stands at a is o from now on -/
def Ch (H : Hp) (a : Addr) (o : HO) (R : Hp → Prop) : Prop := ∀ H', Keep [a] H H' → H' a = some o → R H'
theorem Mk.at {H : Hp} {o : HO} {Q : VK} (h : Mk H o Q) (p : Addr) (n : H p = none) : Q (.ref p) (upd H p o) := h p _ n (Keep.new n) upd_same
theorem Ch.at {H : Hp} {a : Addr} {o : HO} {R : Hp → Prop} (h : Ch H a o R) : R (upd H a o) := h _ Keep.set upd_same

section
variable {X : Cx} {pins : List (Addr × Obj)} {σ : L2.St} {H : Hp} {s : Shared}
/-- a tuple object as the model lays it -/
abbrev tupObj (its : List Value) : Obj := { cls := .type "tuple", data := .seq its.toArray }
theorem mt_end {xs : List V} {its : List Value} {Q : VK} {t' : Nat} (I : Inv X pins σ H s) (r : Vals xs its) (z : xs.length ≤ sizeLine) (h : Mt H xs Q) :
    EP X pins σ Q (.ref s.heap.objs.size) { s with heap := s.heap.push (tupObj its), toks := t' } := by
  have n : H s.heap.objs.size = none := I.hok.fresh (Nat.le_refl _)
  have new : (s.heap.push (tupObj its)).get? s.heap.objs.size = some (tupObj its) := Heap.get?_push_size _ rfl
  refine ⟨.ref s.heap.objs.size, upd H s.heap.objs.size (.frz (tupObj its) (.tup xs)), I.laid (fun b u e => Heap.get?_push_of_some _ e) (Nat.le_refl _) ?_, rfl, ?_⟩
  · exact ⟨new, z, its, r, _, new, rfl, _, rfl⟩
  · exact h _ _ n (Keep.new n) ⟨_, upd_same, rfl, rfl⟩
/-- the object of such a tuple -/
theorem Tup.obj {a : Addr} {xs : List V} (I : Inv X pins σ H s) (h : Tup H a xs) : ∃ (its : List Value) (n : Nat), Vals xs its ∧ xs.length ≤ sizeLine ∧ s.heap.get? a = some { cls := .type "tuple", dict := none, data := .seq its.toArray n, slots := #[] } := by
  obtain ⟨ob, e, d, sl⟩ := h
  obtain ⟨h1, z, its, r, o2, h2, c, n, hd⟩ := I.hok a _ e
  have eo := Option.some.inj (h1.symm.trans h2)
  obtain ⟨c0, d0, da, s0⟩ := ob
  subst eo
  simp only at c hd d sl
  subst c hd d sl
  exact ⟨its, n, r, z, h1⟩
end

/-! ### operators -/
section
variable {X : Cx}
def uAdd (K : PySem.W.Frag) : R2 := fun x y H Q =>
  (∃ i j, x = .int i ∧ y = .int j ∧ Q (.int (i + j)) H) ∨
  (∃ i j, x = .str i ∧ y = .str j ∧ i.length + j.length ≤ sizeLine ∧ Q (.str (i ++ j)) H) ∨
  (∃ l b xs zs, x = .ref l ∧ y = .ref b ∧ H l = some (.lst xs) ∧ H b = some (.lst zs) ∧ xs.length + zs.length ≤ sizeLine ∧ Mk H (.lst (xs ++ zs)) Q) ∨
  (∃ a b xs ys, x = .ref a ∧ y = .ref b ∧ Tup H a xs ∧ Tup H b ys ∧ xs.length + ys.length ≤ sizeLine ∧ (xs = [] → Q y H) ∧ (xs ≠ [] → ys = [] → Q x H) ∧ (xs ≠ [] → ys ≠ [] → Mt H (xs ++ ys) Q))
theorem cat_none {pins : List (Addr × Obj)} {σ : L2.St} {H : Hp} {s : Shared} {a b : Addr} {ys : List V} {Q : VK} (I : Inv X pins σ H s) (ha : Tup H a []) (hb : Tup H b ys) (q : Q (.ref b) H) :
    wpAny (model X.prog X.w) X.A (binaryOp .Add (.ref a) (.ref b)) (EP X pins σ Q) X.xe s := by
  obtain ⟨its, n, r, _, ho⟩ := ha.obj I
  obtain ⟨its2, n2, r2, _, ho2⟩ := hb.obj I
  cases r
  exact concat_meets ⟨_, ho, rfl⟩ ⟨_, ho2, rfl⟩ noFill_tuple_add seq_tuple_add PySem.F.slot_tuple_add PySem.F.entry_tuple_add (PySem.F.args_tuple_add_2 _ _)
    (AutoSeq1.tuple___add___tuple_tuple_0 a #[] n b its2.toArray n2 rfl) ⟨ho, ho2, ⟨.ref b, H, I, rfl, q⟩⟩
theorem op_uAdd : OpR X (binaryOp .Add) (uAdd X.K) := by
  intro pins s σ H x y v u Q I rx ry h
  rcases h with h | h | h | ⟨a, b, xs, ys, rfl, rfl, ha, hb, z, q0, q1, q2⟩
  · exact op_add pins s σ H x y v u Q I rx ry h
  · exact op_add_str pins s σ H x y v u Q I rx ry h
  · obtain ⟨l, b, xs, zs, e1, e2, h1, h2, h3, q⟩ := h
    exact op_cat pins s σ H x y v u Q I rx ry ⟨l, b, xs, zs, e1, e2, h1, h2, h3, fun p n => q.at p n⟩
  · cases rx
    cases ry
    by_cases e : xs = []
    · subst e
      exact cat_none I ha hb (q0 rfl)
    · obtain ⟨its, r1, p1, _⟩ := I.tuple ha.sq
      obtain ⟨its2, r2, p2, _⟩ := I.tuple hb.sq
      refine HT.cat_tup p1 p2 (fun c => e (r1.nil_iff.mp c)) (fun c => ⟨.ref a, H, I, rfl, q1 e (r2.nil_iff.mp c)⟩) (fun c => ?_) (by rw [← r1.length, ← r2.length]; exact z)
      exact mt_end (t' := s.toks) I (r1.append r2) (by rw [List.length_append]; exact z) (q2 e fun d => c (r2.nil_iff.mpr d))
def uMul : R2 := fun x y H Q =>
  (∃ i j, x = .int i ∧ y = .int j ∧ CMul i j ∧ Q (.int (i * j)) H) ∨
  (∃ l k xs, x = .ref l ∧ y = .int k ∧ H l = some (.lst xs) ∧ -(2 ^ 63) ≤ k ∧ k < 2 ^ 63 ∧ xs.length * k.toNat ≤ sizeLine ∧ Mk H (.lst (List.replicate k.toNat xs).flatten) Q)
theorem op_uMul : OpR X (binaryOp .Mult) uMul := by
  intro pins s σ H x y v u Q I rx ry h
  rcases h with h | ⟨l, k, xs, e1, e2, h1, h2, h3, h4, q⟩
  · exact op_mul pins s σ H x y v u Q I rx ry h
  · exact op_rep pins s σ H x y v u Q I rx ry ⟨l, k, xs, e1, e2, h1, h2, h3, h4, fun p n => q.at p n⟩
/-- data that are compared -/
def uEq (K : PySem.W.Frag) (neg : Bool) : R2 := fun x y H Q =>
  (scal x y = true ∧ Q (.bl (if neg then !decide (x = y) else decide (x = y))) H) ∨
  (∃ d e, Dp K H x d ∧ Dp K H y e ∧ SeqAt.shaped d = true ∧ SeqAt.shaped e = true ∧ Q (.bl (if neg then !PyData.eqv d e else PyData.eqv d e)) H)
theorem op_uEq (hu : X.A.units + 64 < cLine) : OpR X (compareOp .Eq) (uEq X.K false) := by
  intro pins s σ H x y v u Q I rx ry h
  rcases h with h | h
  · exact op_eq pins s σ H x y v u Q I rx ry h
  · exact op_eqD hu pins s σ H x y v u Q I rx ry h
theorem op_uNe (hu : X.A.units + 64 < cLine) : OpR X (compareOp .NotEq) (uEq X.K true) := by
  intro pins s σ H x y v u Q I rx ry h
  rcases h with h | h
  · exact op_ne pins s σ H x y v u Q I rx ry h
  · exact op_neD hu pins s σ H x y v u Q I rx ry h
def uIn (K : PySem.W.Frag) (neg : Bool) : R2 := fun x y H Q =>
  (∃ p xs, y = .ref p ∧ (SqL K H p xs ∨ SqT K H p xs) ∧ flatV x = true ∧ xs.all flatV = true ∧ Q (.bl (if neg then !inV x xs else inV x xs)) H) ∨
  (∃ c z : Str, x = .str c ∧ y = .str z ∧ Q (.bl (if neg then !(!(Builtin.Str.occurrences z c 0 z.length 1).isEmpty) else !(Builtin.Str.occurrences z c 0 z.length 1).isEmpty)) H)
theorem op_uIn : OpR X (compareOp .In) (uIn X.K false) := by
  intro pins s σ H x y v u Q I rx ry h
  rcases h with h | ⟨i, j, e1, e2, q⟩
  · exact op_in_seq pins s σ H x y v u Q I rx ry h
  · exact op_in_str pins s σ H x y v u Q I rx ry ⟨i, j, e1, e2, q⟩
theorem op_uNotIn : OpR X (compareOp .NotIn) (uIn X.K true) := by
  intro pins s σ H x y v u Q I rx ry h
  rcases h with h | ⟨i, j, e1, e2, q⟩
  · exact op_notIn_seq pins s σ H x y v u Q I rx ry h
  · exact op_notIn_str pins s σ H x y v u Q I rx ry ⟨i, j, e1, e2, q⟩
end

/-! ### subscripts, slices -/
section
variable {X : Cx}
def uIx (K : PySem.W.Frag) : R2 := fun x y H Q =>
  (∃ p xs i v, x = .ref p ∧ y = .int i ∧ (SqL K H p xs ∨ SqT K H p xs) ∧ atI xs i = some v ∧ Q v H) ∨
  (∃ z i c, x = .str z ∧ y = .int i ∧ z.length ≤ sizeLine ∧ atI z.cps.toList i = some c ∧ Q (.str ⟨#[c]⟩) H)
theorem ix_u : IxR X (uIx X.K) := by
  intro ve se pins s σ H x y v u Q I rx ry h hs
  rcases h with ⟨p, xs, i, w, e1, e2, hq, ha, q⟩ | h
  · rcases hq with hq | hq
    · exact ix_list ve se pins s σ H x y v u Q I rx ry ⟨p, xs, i, w, e1, e2, hq, ha, q⟩ hs
    · exact ix_tup ve se pins s σ H x y v u Q I rx ry ⟨p, xs, i, w, e1, e2, hq, ha, q⟩ hs
  · exact ix_str ve se pins s σ H x y v u Q I rx ry h hs
def uSetL : V → V → V → Hp → (Hp → Prop) → Prop := fun o i v H Q => ∃ p xs k j, o = .ref p ∧ i = .int k ∧ H p = some (.lst xs) ∧ ixN xs.length k = some j ∧ Ch H p (.lst (xs.set j v)) Q
theorem set_u : PSet X uSetL := by
  intro pins s σ H o i v ov iv u Q I r1 r2 r3 h
  obtain ⟨p, xs, k, j, e1, e2, h1, h2, q⟩ := h
  exact set_list pins s σ H o i v ov iv u Q I r1 r2 r3 ⟨p, xs, k, j, e1, e2, h1, h2, q.at⟩
end
end Wg

/-! Wagon, part 3: displays, slices, calls of built-ins, repr of data. -/
namespace Wg
open PySem PySem.Spec PyProof.Rows L2

/-! ### displays -/
section
variable {X : Cx} {es : List Expr} {t : TA} {pos : Pos}
def tTupU (t : TA) : TE := fun σ H Q => t σ H fun xs H1 => xs.length ≤ sizeLine ∧ Mt H1 xs Q
def tLstU (t : TA) : TE := fun σ H Q => t σ H fun xs H1 => xs.length ≤ sizeLine ∧ Mk H1 (.lst xs) Q
theorem pe_tupU {k : Nat} (h : PA X es t) : PE X (.Tuple es k pos) (tTupU t) := by
  constructor
  intro pins s σ H Q I hq
  have run := h.run pos pins s σ H _ I hq
  refine wpAny_Tuple_spliced (thn run fun us s1 r => ?_)
  obtain ⟨xs, H1, I1, rv, z, q⟩ := r
  rw [← rv.length]
  exact ⟨z, mt_end (t' := s1.toks) I1 rv z q⟩
theorem pe_lstU (h : PA X es t) : PE X (.List es pos) (tLstU t) := by
  constructor
  intro pins s σ H Q I hq
  have run := h.run pos pins s σ H _ I hq
  refine wpAny_List_spliced (thn run fun us s1 r => ?_)
  obtain ⟨xs, H1, I1, rv, z, q⟩ := r
  rw [← rv.length]
  have n := I1.fresh
  have new : ObjOk X.prog X.w (upd H1 s1.heap.objs.size (.lst xs)) (s1.heap.push { cls := .type "list", data := .seq us.toArray }) s1.heap.objs.size (.lst xs) := ⟨z, us, 0, rv, Heap.get?_push_size _ rfl⟩
  exact ⟨z, .ref s1.heap.objs.size, _, I1.laid (t' := s1.toks) (fun b u e => Heap.get?_push_of_some _ e) (Nat.le_refl _) new, rfl, q.at _ n⟩
def tDNewU : TE := fun _ H Q => Mk H (.dK []) Q
theorem pe_dnewU : PE X (.Dict [] [] pos) tDNewU := ⟨fun pins s σ H Q I h => pe_dnewK.run pins s σ H Q I fun p n => h.at p n⟩
/-- {k: v} of two names -/
def tDic1 (i j : Nat) : TE := fun σ H Q => ∃ x : V, σ[i]? = some (some x) ∧ ∃ y : V, σ[j]? = some (some y) ∧ ∃ k : Key, x = kV k ∧ Mk H (.dK [(k, y)]) Q
theorem pe_dic1 {k v : Expr} {i j : Nat} (hk : PE X k (tVar i)) (hv : PE X v (tVar j)) : PE X (.Dict [some k] [v] pos) (tDic1 i j) := by
  constructor
  intro pins s σ H Q I h
  obtain ⟨x, e1, y, e2, kk, rfl, q⟩ := h
  refine (pe_disp (pps_cons hk hv pps_nil) rfl rfl (by simp) (by simp)).run pins s σ H Q I fun p n => ?_
  refine ⟨_, e1, _, e2, upd_same, [(kk, y)], rfl, by simp, ?_⟩
  rw [upd_upd]
  exact q.at p n
end

/-! ### slices -/
section
variable {prog : Program} {w : World} {A : Around} {E : Value → Shared → Prop} {s : Shared}
/-- t[..] of all of t is t -/
theorem cut_whole {t sl : Addr} {items : Array Value} {vl vu : Value} {lo hi : Option Int} {Q : Value → Shared → Prop} (ht : IsTup s.heap t items) (hs : s.heap.IsSliceOf sl vl vu .none) (pl : IsPart vl lo) (pu : IsPart vu hi)
    (h0 : HT.sIx items.size 0 lo = 0) (h1 : HT.sIx items.size items.size hi = items.size) (h : Q (.ref t) s) : wpAny (model prog w) A (getItem (.ref t) (.ref sl)) Q E s := by
  obtain ⟨os, hos, hcs, hds⟩ := id hs
  have tysl : s.TypeIs (.ref sl) "slice" := ⟨os, hos, hcs⟩
  unfold getItem
  try with_reducible refine wpAny_holding ?_
  first | refine wpAny_bind (wpAny_pure ?_) | skip
  refine wpAny_bind (wpAny_sequenceKey ht.typeIs (by decide) ?_)
  refine wpAny_bind (wpAny_callSpecial?_slot (name := Str.ofString "__getitem__") ht.typeIs PyProof.Rows.slot_tuple_getitem
    (wpAny_call_entry PyProof.Rows.slot_tuple_getitem ht.typeIs entry_tuple_getitem ?_ (args_tuple_getitem _ _)))
  show wpAny _ _ (Builtin.Tuple.tupleItemsOf (.ref t) >>= _) _ _ s
  refine wpAny_bind (tupleItemsOf_ ht (wpAny_bind (wpAny_typeOf tysl ?_)))
  rw [if_pos (by decide)]
  refine wpAny_bind (HT.sliceApplied_gen hs pl pu ?_)
  rw [h0, h1]
  show wpAny _ _ (if ((((0 : Nat) : Int) == 0 && (1 : Int) == 1 && (items.size - 0) == items.size) = true) then _ else _) _ _ s
  rw [if_pos (by simp)]
  refine wpAny_bind (m := Builtin.Tuple.tupleIsExact _) ?_
  unfold Builtin.Tuple.tupleIsExact
  refine wpAny_bind (wpAny_typeOf ht.typeIs (wpAny_pure ?_))
  rw [if_pos (by decide)]
  exact wpAny_bind (wpAny_rule (wpAny_pure ⟨_, rfl, wpAny_pure h⟩))
end
section
variable {X : Cx}
def uSl (K : PySem.W.Frag) : V → Option Int → Option Int → Hp → VK → Prop := fun x lo hi H Q =>
  (∃ a xs, x = .ref a ∧ SqL K H a xs ∧ Mk H (.lst (cutV xs lo hi)) Q) ∨
  (∃ z, x = .str z ∧ z.length ≤ sizeLine ∧ Q (.str (cutS z lo hi)) H) ∨
  (∃ a xs, x = .ref a ∧ Tup H a xs ∧ ((HT.sIx xs.length 0 lo = 0 ∧ HT.sIx xs.length xs.length hi = xs.length) → Q (.ref a) H) ∧
    (¬ (HT.sIx xs.length 0 lo = 0 ∧ HT.sIx xs.length xs.length hi = xs.length) → Mt H (cutV xs lo hi) Q))
theorem sl_u : SlR X (uSl X.K) := by
  intro pins s σ H x v vl vu lo hi sl Q I rx hs pl pu h
  rcases h with ⟨a, xs, e, hx, q⟩ | h | ⟨a, xs, rfl, hx, q1, q2⟩
  · exact sl_list pins s σ H x v vl vu lo hi sl Q I rx hs pl pu ⟨a, xs, e, hx, fun p n => q.at p n⟩
  · exact sl_str pins s σ H x v vl vu lo hi sl Q I rx hs pl pu h
  · cases rx
    obtain ⟨its, r, ht, hz⟩ := I.tuple hx.sq
    have hlen : its.toArray.size = xs.length := by
      rw [List.size_toArray]
      exact r.length.symm
    refine ⟨"tuple", _, PyProof.Rows.slot_tuple_getitem.lookup, ht.typeIs, ?_⟩
    by_cases c : HT.sIx xs.length 0 lo = 0 ∧ HT.sIx xs.length xs.length hi = xs.length
    · exact cut_whole ht hs pl pu (by rw [hlen]; exact c.1) (by rw [hlen]; exact c.2) ⟨.ref a, H, I, rfl, q1 c⟩
    · refine HT.getItem_tuple_cut ht hs pl pu (by rw [hlen]; exact c) ?_ (by rw [hlen]; exact hz)
      rw [hlen]
      refine mt_end (t' := s.toks) I ((r.drop (HT.sIx xs.length 0 lo)).take (HT.sIx xs.length xs.length hi - HT.sIx xs.length 0 lo)) (Nat.le_trans (cutV_length xs lo hi) hz) (q2 c)
end

/-! ### calls -/
section
variable {X : Cx}
def uList (K : PySem.W.Frag) : List V → Hp → VK → Prop := fun xs H Q => ∃ p ys, xs = [.ref p] ∧ (SqL K H p ys ∨ SqT K H p ys) ∧ Mk H (.lst ys) Q
theorem call_uList : CallR X (.type "list") (uList X.K) := by
  intro pins s σ H xs us Q I r h
  obtain ⟨p, ys, e, hq, q⟩ := h
  exact call_list_of pins s σ H xs us Q I r ⟨p, ys, e, hq, fun l n => q.at l n⟩
def uTuple (K : PySem.W.Frag) : List V → Hp → VK → Prop := fun xs H Q => ∃ p ys, xs = [.ref p] ∧ ((SqL K H p ys ∧ Mt H ys Q) ∨ (SqT K H p ys ∧ Q (.ref p) H))
theorem call_uTuple : CallR X (.type "tuple") (uTuple X.K) := by
  intro pins s σ H xs us Q I r h
  obtain ⟨p, ys, rfl, h⟩ := h
  obtain ⟨u, rfl, rx⟩ := vals1 r
  cases rx
  rcases h with ⟨hq, q⟩ | ⟨hq, q⟩
  · obtain ⟨its, r', pl, hz⟩ := I.list hq
    have hlen := r'.length
    refine call_tuple_list pl.isList (fun h' kp => ?_) (by simp only [List.size_toArray] <;> omega)
    exact mt_end (t' := s.toks) (I.kept (t' := s.toks) kp) r' hz q
  · obtain ⟨its, r', pl, hz⟩ := I.tuple hq
    exact call_tuple_same pl ⟨.ref p, H, I, rfl, q⟩
/-- what repr tells of data -/
def uRepr (K : PySem.W.Frag) : List V → Hp → VK → Prop := fun xs H Q => ∃ v d, xs = [v] ∧ Dp K H v d ∧ d.showable = true ∧ d.depth ≤ 100 ∧ d.shown.length ≤ sizeLine ∧ Q (.str d.shown) H
theorem dp_noDict {K : PySem.W.Frag} {H : Hp} : ∀ {v : V} {d : PyData}, Dp K H v d → d.hasDict = false := by
  intro v d h
  refine Dp.rec (motive_1 := fun v d _ => d.hasDict = false) (motive_2 := fun vs ds _ => PyData.hasDictAll ds = false) ?_ ?_ ?_ ?_ ?_ ?_ ?_ ?_ h
  all_goals intros
  all_goals (try simp only [PyData.hasDict, PyData.hasDictAll, Bool.or_eq_false_iff])
  all_goals (try assumption)
  all_goals (try (constructor <;> assumption))
theorem call_uRepr (hr : Rm 1 X.A) : CallR X (.builtin "repr") (uRepr X.K) := by
  intro pins s σ H xs us Q I r h
  obtain ⟨v, d, rfl, hd, hs, hdep, hz, q⟩ := h
  obtain ⟨u, rfl, rx⟩ := vals1 r
  have hu : X.A.units + (d.depth + 1) < cLine := by
    have := hr.rm.un
    omega
  have hno := dp_noDict hd
  cases hd with
  | non => cases rx; exact PySem.P.repr_of_none ⟨.str _, H, I.tok _, ⟨_, rfl⟩, q⟩
  | bl b => cases rx; exact PySem.P.repr_of_bool ⟨.str _, H, I.tok _, ⟨_, rfl⟩, q⟩
  | int i =>
    obtain ⟨t, rfl⟩ := rx
    exact PySem.P.repr_of_int (of_decide_eq_true hs) ⟨.str _, H, I.tok _, ⟨_, rfl⟩, q⟩
  | str x =>
    obtain ⟨t, rfl⟩ := rx
    exact PySem.P.repr_of_str ⟨.str _, H, I.tok _, ⟨_, rfl⟩, q⟩ hz
  | lst hl ha =>
    cases rx
    obtain ⟨as, rd⟩ := Dp.reads I _ _ _ (.lst hl ha) rfl
    refine repr_of_reads' rd hs (fun z => absurd z (by rw [hno]; exact Bool.false_ne_true)) hr.gd hu (fun _ _ e => e) (fun h' u tk hk => ?_) hz
    exact ⟨.str _, H, I.kept (t' := tk) hk, ⟨_, rfl⟩, q⟩
  | tup hl ha =>
    cases rx
    obtain ⟨as, rd⟩ := Dp.reads I _ _ _ (.tup hl ha) rfl
    refine repr_of_reads' rd hs (fun z => absurd z (by rw [hno]; exact Bool.false_ne_true)) hr.gd hu (fun _ _ e => e) (fun h' u tk hk => ?_) hz
    exact ⟨.str _, H, I.kept (t' := tk) hk, ⟨_, rfl⟩, q⟩
end
end Wg

/-! Wagon, part 4: what is walked; words for defs and their bodies. -/
namespace Wg
open PySem PySem.Spec PyProof.Rows L2

section
variable {X : Cx}
/-- an expression's truth -/
def tTru (K : PySem.W.Frag) (ta : TE) : TT := fun σ H Q => ta σ H fun x H' => ∃ k, TruV K x H' k ∧ Q k H'
theorem pt_tru {a : Expr} {ta : TE} (ha : PE X a ta) (he : ∀ whole, isTrue a X.env whole = (do let v ← whole; standAt a.pos; holding [v] (truthy v)) := by intro _; rfl) : PT X a (tTru X.K ta) := pt_truth ha he
/-- a list, a tuple or a text that is walked -/
def iU (K : PySem.W.Frag) (tl : TE) : TI := fun σ H R => tl σ H fun x H1 =>
  (∃ a xs, x = .ref a ∧ SqL K H1 a xs ∧ R (Itl K a) H1) ∨ (∃ a xs, x = .ref a ∧ SqT K H1 a xs ∧ R (Itt K a) H1) ∨ (∃ z, x = .str z ∧ R (Its z) H1)
theorem pi_u {tg l : Expr} {tl : TE} (hl : PE X l tl) : PI X tg l (iU X.K tl) := by
  constructor
  intro pins s σ H R I h
  have run := hl.run pins s σ H _ I h
  refine thn run fun v s1 e => ?_
  obtain ⟨x, H1, I1, r1, q1⟩ := e
  have new : ∀ {o : Obj} {b : Addr}, b ∈ [s1.heap.objs.size] → FpOk X pins H1 b := fun {o b} hb => by
    rw [List.mem_singleton.mp hb]
    exact I1.fpOk (Nat.le_refl _) I1.fresh
  rcases q1 with ⟨a, xs, rfl, hq, q⟩ | ⟨a, xs, rfl, hq, q⟩ | ⟨z, rfl, q⟩
  · cases r1
    obtain ⟨its, rv, p, hz⟩ := I1.list hq
    refine wpAny_pyIter_list p.isList ⟨_, [s1.heap.objs.size], _, _, H1, rfl, I1.kept (t' := s1.toks) fun b o e => Heap.get?_push_of_some _ e, turn_list a _, ?_, fun b hb => ?_, q⟩
    · exact ⟨_, Heap.get?_push_size _ rfl, rfl, rfl⟩
    · exact new (o := default) hb
  · cases r1
    obtain ⟨its, rv, p, hz⟩ := I1.tuple hq
    refine wpAny_pyIter_tuple (show s1.heap.IsTuple a its.toArray from p) ⟨_, [s1.heap.objs.size], _, _, H1, rfl, I1.kept (t' := s1.toks) fun b o e => Heap.get?_push_of_some _ e, turn_tuple a _, ?_, fun b hb => ?_, q⟩
    · exact ⟨_, Heap.get?_push_size _ rfl, rfl, rfl⟩
    · exact new (o := default) hb
  · obtain ⟨t, rfl⟩ := r1
    match ha : z.cps.all (· < 128) with
    | false => exact wpAny_pyIter_wide ha (pi_one (tk := s1.toks) I1 _ (turn_str _ z t "str_iterator" (.inr rfl)) ⟨_, Heap.get?_push_size _ rfl, rfl, rfl⟩ q)
    | true => exact wpAny_pyIter_ascii ha (pi_one (tk := s1.toks) I1 _ (turn_str _ z t "str_ascii_iterator" (.inl rfl)) ⟨_, Heap.get?_push_size _ rfl, rfl, rfl⟩ q)
end

/-- a body as a promise: the values in the slots at the beginning -/
def run (t : TS) (σ : L2.St) (H : Hp) (Q : VK) : Prop := t { nx := fun _ H' => Q .non H', rt := Q } σ H
end Wg

namespace Wg
open PySem PySem.Spec PyProof.Rows L2
/-- a def of the text where it stands -/
structure Fn (K : PySem.W.Frag) (mg : Str → Option Value) (x : Str) (st : Stmt) (f : Addr) (fd : FuncData) (ps : List Str) : Prop where
  fn : Fun K x x st f fd
  g : mg x = some (.ref f)
  b : Binds K fd ps []

/-! ### data that stand still -/
mutual
inductive Dt (K : PySem.W.Frag) (H : Hp) : V → PyData → Prop
  | non : Dt K H .non .none
  | bl (b : Bool) : Dt K H (.bl b) (.bool b)
  | int (i : Int) : Dt K H (.int i) (.int i)
  | str (x : Str) : Dt K H (.str x) (.str x)
  | tup {a : Addr} {xs : List V} {ds : List PyData} : Tup H a xs → DtAll K H xs ds → Dt K H (.ref a) (.tuple ds)
inductive DtAll (K : PySem.W.Frag) (H : Hp) : List V → List PyData → Prop
  | nil : DtAll K H [] []
  | cons {v : V} {vs : List V} {d : PyData} {ds : List PyData} : Dt K H v d → DtAll K H vs ds → DtAll K H (v :: vs) (d :: ds)
end
mutual
theorem Dt.dp {K : PySem.W.Frag} {H : Hp} : ∀ {v : V} {d : PyData}, Dt K H v d → Dp K H v d
  | _, _, .non => .non
  | _, _, .bl b => .bl b
  | _, _, .int i => .int i
  | _, _, .str x => .str x
  | _, _, .tup t a => .tup t.sq a.dp
theorem DtAll.dp {K : PySem.W.Frag} {H : Hp} : ∀ {vs : List V} {ds : List PyData}, DtAll K H vs ds → DpAll K H vs ds
  | _, _, .nil => .nil
  | _, _, .cons h r => .cons h.dp r.dp
end
mutual
theorem Dt.reads {X : Cx} {pins : List (Addr × Obj)} {σ : L2.St} {H : Hp} {s : Shared} {K : PySem.W.Frag} (I : Inv X pins σ H s) : ∀ {v : V} {d : PyData}, Dt K H v d → ∀ {u : Value}, RelV v u → Reads s.heap u d []
  | _, _, .non, u, r => by cases r; exact .none
  | _, _, .bl b, u, r => by cases r; exact .bool b
  | _, _, .int i, u, r => by obtain ⟨t, rfl⟩ := r; exact .int i t
  | _, _, .str x, u, r => by obtain ⟨t, rfl⟩ := r; exact .str x t
  | _, _, .tup (a := a) t q, u, r => by
    cases r
    obtain ⟨its, n, rv, z, ho⟩ := t.obj I
    exact .tuple ho rfl rfl (DtAll.reads I q rv)
theorem DtAll.reads {X : Cx} {pins : List (Addr × Obj)} {σ : L2.St} {H : Hp} {s : Shared} {K : PySem.W.Frag} (I : Inv X pins σ H s) : ∀ {vs : List V} {ds : List PyData}, DtAll K H vs ds → ∀ {us : List Value}, Vals vs us → ReadsAll s.heap us ds []
  | _, _, .nil, _, r => by cases r; exact .nil
  | _, _, .cons h q, _, r => by
    cases r with
    | cons r1 r2 => exact .cons (Dt.reads I h r1) (DtAll.reads I q r2)
end
mutual
/-- a change of what is no tuple leaves them -/
theorem Dt.keep {K : PySem.W.Frag} {S : List Addr} {H H' : Hp} (k : Keep S H H') (n : ∀ a xs, Tup H a xs → a ∉ S) : ∀ {v : V} {d : PyData}, Dt K H v d → Dt K H' v d
  | _, _, .non => .non
  | _, _, .bl b => .bl b
  | _, _, .int i => .int i
  | _, _, .str x => .str x
  | _, _, .tup t a => .tup (t.keep k (n _ _ t)) (DtAll.keep k n a)
theorem DtAll.keep {K : PySem.W.Frag} {S : List Addr} {H H' : Hp} (k : Keep S H H') (n : ∀ a xs, Tup H a xs → a ∉ S) : ∀ {vs : List V} {ds : List PyData}, DtAll K H vs ds → DtAll K H' vs ds
  | _, _, .nil => .nil
  | _, _, .cons h r => .cons (Dt.keep k n h) (DtAll.keep k n r)
end
def keyD : Key → PyData
  | .inl i => .int i
  | .inr x => .str x
theorem pairs_reads {X : Cx} {pins : List (Addr × Obj)} {σ : L2.St} {H : Hp} {s : Shared} {K : PySem.W.Frag} (I : Inv X pins σ H s) : ∀ {es : List DictEntry} {kvs : List (Key × V)} {us : List (Key × Value)} {ds : List PyData},
    PySem.Pairs (mixKind X.prog X.w) es us → KV kvs us → DtAll K H (kvs.map (·.2)) ds →
      ReadsAll s.heap (es.map (·.key)) (kvs.map fun p => keyD p.1) [] ∧ ReadsAll s.heap (es.map (·.val)) ds []
  | _, _, _, _, .nil, .nil, .nil => ⟨.nil, .nil⟩
  | e :: es, (k, v) :: kvs, (k', u) :: us, d :: ds, .cons h1 h2 hr, .cons ⟨q1, q2⟩ qr, .cons hd hds => by
    obtain ⟨r1, r2⟩ := pairs_reads I hr qr hds
    have q1' : k = k' := q1
    have q2' : RelV v u := q2
    have hv : e.val = u := h2
    have hk : keyIs k' e.key = true := h1
    subst q1'
    have rv : Reads s.heap e.val d [] := by
      rw [hv]
      exact hd.reads I q2'
    refine ⟨.cons (as := []) (bs := []) ?_ r1, .cons (as := []) (bs := []) rv r2⟩
    show Reads s.heap e.key (keyD k) []
    rcases keyIs_shape hk with ⟨i, t, rfl, e2⟩ | ⟨x, t, rfl, e2⟩
    · rw [e2]; exact .int i t
    · rw [e2]; exact .str x t

section
variable {X : Cx}
/-- what repr tells of a dict of such data -/
def uReprD (K : PySem.W.Frag) : List V → Hp → VK → Prop := fun xs H Q => ∃ (a : Addr) (kvs : List (Key × V)) (ds : List PyData), xs = [.ref a] ∧ H a = some (.dK kvs) ∧ DtAll K H (kvs.map (·.2)) ds ∧
  (PyData.dict ((kvs.map fun p => keyD p.1).zip ds)).showable = true ∧ (PyData.dict ((kvs.map fun p => keyD p.1).zip ds)).depth ≤ 100 ∧ (PyData.dict ((kvs.map fun p => keyD p.1).zip ds)).shown.length ≤ sizeLine ∧
  Q (.str (PyData.dict ((kvs.map fun p => keyD p.1).zip ds)).shown) H
theorem DtAll.len {K : PySem.W.Frag} {H : Hp} : ∀ {vs : List V} {ds : List PyData}, DtAll K H vs ds → vs.length = ds.length
  | _, _, .nil => rfl
  | _, _, .cons _ r => congrArg (· + 1) r.len
theorem call_uReprD (hr : Rm 1 X.A) : CallR X (.builtin "repr") (uReprD X.K) := by
  intro pins s σ H xs us Q I r h
  obtain ⟨a, kvs, ds, rfl, ha, hd, hs, hdep, hz, q⟩ := h
  obtain ⟨u, rfl, rx⟩ := vals1 r
  cases rx
  obtain ⟨z, hsy, ws, kv, o, es, ep, ho, ex, hdat, _, hp, _⟩ := I.hok a _ ha
  obtain ⟨r1, r2⟩ := pairs_reads I hp kv hd
  have hl := hd.len
  rw [List.length_map] at hl
  have e1 : ((kvs.map fun p => keyD p.1).zip ds).map (·.1) = kvs.map fun p => keyD p.1 := List.map_fst_zip (by rw [List.length_map]; omega)
  have e2 : ((kvs.map fun p => keyD p.1).zip ds).map (·.2) = ds := List.map_snd_zip (by rw [List.length_map]; omega)
  have rd : Reads s.heap (.ref a) (PyData.dict ((kvs.map fun p => keyD p.1).zip ds)) (a :: [] ++ []) := .dict ho ex.1 hdat (by rw [e1]; exact r1) (by rw [e2]; exact r2)
  have hu : X.A.units + ((PyData.dict ((kvs.map fun p => keyD p.1).zip ds)).depth + 1) < cLine := by
    have := hr.rm.un
    omega
  refine repr_of_reads' rd hs (fun _ hm => ?_) hr.gd hu (fun _ _ e => e) (fun h' u tk hk => ?_) hz
  · have e : sysModules = a := by simpa using hm
    rw [e] at hsy
    simp at hsy
  · exact ⟨.str _, H, I.kept (t' := tk) hk, ⟨_, rfl⟩, q⟩
def uRep (K : PySem.W.Frag) : List V → Hp → VK → Prop := fun xs H Q => uRepr K xs H Q ∨ uReprD K xs H Q
theorem call_uRep (hr : Rm 1 X.A) : CallR X (.builtin "repr") (uRep X.K) := (call_uRepr hr).or (call_uReprD hr)

def uLen (K : PySem.W.Frag) : List V → Hp → VK → Prop := fun xs H Q => ∃ x n, xs = [x] ∧ LenV K x H n ∧ Q (.int n) H
theorem call_uLen : CallR X (.builtin "len") (uLen X.K) := call_len
def uAbs : List V → Hp → VK → Prop := fun xs H Q => ∃ i, xs = [.int i] ∧ Q (.int (if i < 0 then -i else i)) H
theorem call_uAbs : CallR X (.builtin "abs") uAbs := call_abs
def uMax2 : List V → Hp → VK → Prop := fun xs H Q => ∃ i j, xs = [.int i, .int j] ∧ Q (.int (if j > i then j else i)) H
theorem call_uMax2 (hc : X.calm = true) : CallR X (.builtin "max") uMax2 := call_max2 hc
def uMin2 : List V → Hp → VK → Prop := fun xs H Q => ∃ i j, xs = [.int i, .int j] ∧ Q (.int (if j < i then j else i)) H
theorem call_uMin2 (hc : X.calm = true) : CallR X (.builtin "min") uMin2 := call_min2 hc
def uStr : List V → Hp → VK → Prop := fun xs H Q => ∃ i, xs = [.int i] ∧ i.natAbs.log2 < 1920 ∧ Q (.str (toString i)) H
theorem call_uStr : CallR X (.type "str") uStr := call_str_int
def uInt : List V → Hp → VK → Prop := fun xs H Q => (∃ i, xs = [.int i] ∧ Q (.int i) H) ∨ ∃ k, xs = [.bl k] ∧ Q (.int (if k then 1 else 0)) H
theorem call_uInt : CallR X (.type "int") uInt := call_int1
def rIsN : R2 := fun x y H Q => y = .non ∧ Q (.bl (decide (x = .non))) H
def rNotN : R2 := fun x y H Q => y = .non ∧ Q (.bl (!decide (x = .non))) H

/-! ### methods -/
def uAppend : V → List V → Hp → VK → Prop := fun x vs H Q => ∃ l xs y, x = .ref l ∧ vs = [y] ∧ H l = some (.lst xs) ∧ xs.length < sizeLine ∧ Ch H l (.lst (xs ++ [y])) (Q .non)
theorem mt_uAppend : MtM X "list.append" uAppend := by
  intro pins s σ H x vs v us Q I rx rv h
  obtain ⟨l, xs, y, e1, e2, h1, h2, q⟩ := h
  exact mt_append pins s σ H x vs v us Q I rx rv ⟨l, xs, y, e1, e2, h1, h2, q.at⟩
end
end Wg

/-! Wagon, part 5: how a reading goes on, construct by construct. -/
namespace Wg
open PySem PySem.Spec PyProof.Rows L2

section
variable {K : PySem.W.Frag} {H : Hp} {Q : VK} {i j : Int}
theorem e_rI {C : Int → Int → Prop} {g : Int → Int → V} : rI C g (.int i) (.int j) H Q ↔ C i j ∧ Q (g i j) H := by
  constructor
  · rintro ⟨a, b, e1, e2, c, q⟩
    cases e1; cases e2; exact ⟨c, q⟩
  · rintro ⟨c, q⟩; exact ⟨i, j, rfl, rfl, c, q⟩
theorem e_rI0 {g : Int → Int → V} : rI0 g (.int i) (.int j) H Q ↔ Q (g i j) H := by
  constructor
  · rintro ⟨a, b, e1, e2, q⟩
    cases e1; cases e2; exact q
  · intro q; exact ⟨i, j, rfl, rfl, q⟩
theorem e_rU {g : Int → V} : rU g (.int i) H Q ↔ Q (g i) H := by
  constructor
  · rintro ⟨a, e1, q⟩
    cases e1; exact q
  · intro q; exact ⟨i, rfl, q⟩
theorem e_addI : uAdd K (.int i) (.int j) H Q ↔ Q (.int (i + j)) H := by
  constructor
  · rintro (⟨a, b, e1, e2, q⟩ | ⟨a, b, e1, _⟩ | ⟨a, b, _, _, e1, _⟩ | ⟨a, b, _, _, e1, _⟩) <;> first | cases e1; cases e2; exact q | cases e1
  · intro q; exact .inl ⟨i, j, rfl, rfl, q⟩
theorem e_addS {x y : Str} : uAdd K (.str x) (.str y) H Q ↔ x.length + y.length ≤ sizeLine ∧ Q (.str (x ++ y)) H := by
  constructor
  · rintro (⟨a, b, e1, _⟩ | ⟨a, b, e1, e2, z, q⟩ | ⟨a, b, _, _, e1, _⟩ | ⟨a, b, _, _, e1, _⟩) <;> first | cases e1; cases e2; exact ⟨z, q⟩ | cases e1
  · rintro ⟨z, q⟩; exact .inr (.inl ⟨x, y, rfl, rfl, z, q⟩)
theorem e_mulI : uMul (.int i) (.int j) H Q ↔ CMul i j ∧ Q (.int (i * j)) H := by
  constructor
  · rintro (⟨a, b, e1, e2, c, q⟩ | ⟨a, b, _, e1, _⟩) <;> first | cases e1; cases e2; exact ⟨c, q⟩ | cases e1
  · rintro ⟨c, q⟩; exact .inl ⟨i, j, rfl, rfl, c, q⟩
theorem e_abs : uAbs [.int i] H Q ↔ Q (.int (if i < 0 then -i else i)) H := by
  constructor
  · rintro ⟨a, e1, q⟩
    cases e1; exact q
  · intro q; exact ⟨i, rfl, q⟩
theorem e_max2 : uMax2 [.int i, .int j] H Q ↔ Q (.int (if j > i then j else i)) H := by
  constructor
  · rintro ⟨a, b, e1, q⟩
    cases e1; exact q
  · intro q; exact ⟨i, j, rfl, q⟩
theorem e_min2 : uMin2 [.int i, .int j] H Q ↔ Q (.int (if j < i then j else i)) H := by
  constructor
  · rintro ⟨a, b, e1, q⟩
    cases e1; exact q
  · intro q; exact ⟨i, j, rfl, q⟩
theorem e_str : uStr [.int i] H Q ↔ i.natAbs.log2 < 1920 ∧ Q (.str (toString i)) H := by
  constructor
  · rintro ⟨a, e1, z, q⟩
    cases e1; exact ⟨z, q⟩
  · rintro ⟨z, q⟩; exact ⟨i, rfl, z, q⟩
theorem e_intI : uInt [.int i] H Q ↔ Q (.int i) H := by
  constructor
  · rintro (⟨a, e1, q⟩ | ⟨a, e1, q⟩) <;> cases e1; exact q
  · intro q; exact .inl ⟨i, rfl, q⟩
theorem e_intB {k : Bool} : uInt [.bl k] H Q ↔ Q (.int (if k then 1 else 0)) H := by
  constructor
  · rintro (⟨a, e1, q⟩ | ⟨a, e1, q⟩) <;> cases e1; exact q
  · intro q; exact .inr ⟨k, rfl, q⟩
theorem e_isN {x : V} : rIsN x .non H Q ↔ Q (.bl (decide (x = .non))) H := ⟨fun h => h.2, fun q => ⟨rfl, q⟩⟩
theorem e_notN {x : V} : rNotN x .non H Q ↔ Q (.bl (!decide (x = .non))) H := ⟨fun h => h.2, fun q => ⟨rfl, q⟩⟩
theorem e_truB {k k' : Bool} : TruV K (.bl k) H k' ↔ k' = k := Iff.rfl
theorem e_truI {k' : Bool} : TruV K (.int i) H k' ↔ k' = (i != 0) := Iff.rfl
/-- equality of scalars -/
theorem g_eq {x y : V} (h : scal x y = true) (q : Q (.bl (decide (x = y))) H) : uEq K false x y H Q := .inl ⟨h, by simpa using q⟩
theorem g_ne {x y : V} (h : scal x y = true) (q : Q (.bl (!decide (x = y))) H) : uEq K true x y H Q := .inl ⟨h, by simpa using q⟩
/-- an item of a list, of a tuple -/
theorem g_ixL {p : Addr} {xs : List V} {v : V} (h : H p = some (.lst xs)) (e : atI xs i = some v) (q : Q v H) : uIx K (.ref p) (.int i) H Q := .inl ⟨p, xs, i, v, rfl, rfl, .inl (lst_sq h), e, q⟩
theorem g_ixT {p : Addr} {xs : List V} {v : V} (h : Tup H p xs) (e : atI xs i = some v) (q : Q v H) : uIx K (.ref p) (.int i) H Q := .inl ⟨p, xs, i, v, rfl, rfl, .inr h.sq, e, q⟩
theorem g_ixQ {p : Addr} {xs : List V} {v : V} (h : SqL K H p xs) (e : atI xs i = some v) (q : Q v H) : uIx K (.ref p) (.int i) H Q := .inl ⟨p, xs, i, v, rfl, rfl, .inl h, e, q⟩
theorem g_ixS {z : Str} {c : Nat} (h : z.length ≤ sizeLine) (e : atI z.cps.toList i = some c) (q : Q (.str ⟨#[c]⟩) H) : uIx K (.str z) (.int i) H Q := .inr ⟨z, i, c, rfl, rfl, h, e, q⟩
/-- an item stored -/
theorem g_setL {p : Addr} {xs : List V} {v : V} {k : Nat} {R : Hp → Prop} (h : H p = some (.lst xs)) (e : ixN xs.length i = some k) (q : ∀ H', Keep [p] H H' → H' p = some (.lst (xs.set k v)) → R H') : uSetL (.ref p) (.int i) v H R :=
  ⟨p, xs, i, k, rfl, rfl, h, e, q⟩
theorem g_addL {a b : Addr} {xs ys : List V} (h1 : H a = some (.lst xs)) (h2 : H b = some (.lst ys)) (z : xs.length + ys.length ≤ sizeLine) (q : ∀ p H', H p = none → Keep [] H H' → H' p = some (.lst (xs ++ ys)) → Q (.ref p) H') : uAdd K (.ref a) (.ref b) H Q :=
  .inr (.inr (.inl ⟨a, b, xs, ys, rfl, rfl, h1, h2, z, q⟩))
theorem g_addT {a b : Addr} {xs ys : List V} (h1 : Tup H a xs) (h2 : Tup H b ys) (z : xs.length + ys.length ≤ sizeLine) (q : ∀ p H', Keep [] H H' → Tup H' p (xs ++ ys) → Q (.ref p) H') : uAdd K (.ref a) (.ref b) H Q := by
  refine .inr (.inr (.inr ⟨a, b, xs, ys, rfl, rfl, h1, h2, z, fun e => ?_, fun _ e => ?_, fun _ _ p H' _ k t => q p H' k t⟩))
  · subst e
    exact q b H (Keep.refl _ _) h2
  · subst e
    exact q a H (Keep.refl _ _) (by rw [List.append_nil]; exact h1)
theorem g_lenL {p : Addr} {xs : List V} (h : H p = some (.lst xs)) (q : Q (.int xs.length) H) : uLen K [.ref p] H Q := ⟨.ref p, xs.length, rfl, .inl ⟨xs, lst_sq h, rfl⟩, q⟩
theorem g_lenT {p : Addr} {xs : List V} (h : Tup H p xs) (q : Q (.int xs.length) H) : uLen K [.ref p] H Q := ⟨.ref p, xs.length, rfl, .inr ⟨xs, h.sq, rfl⟩, q⟩
theorem g_lenQ {p : Addr} {xs : List V} (h : SqL K H p xs) (q : Q (.int xs.length) H) : uLen K [.ref p] H Q := ⟨.ref p, xs.length, rfl, .inl ⟨xs, h, rfl⟩, q⟩
theorem g_lenS {z : Str} (h : z.length ≤ sizeLine) (q : Q (.int z.length) H) : uLen K [.str z] H Q := ⟨.str z, z.length, rfl, ⟨h, rfl⟩, q⟩
theorem g_repr {v : V} {d : PyData} (h : Dp K H v d) (h1 : d.showable = true) (h2 : d.depth ≤ 100) (h3 : d.shown.length ≤ sizeLine) (q : Q (.str d.shown) H) : uRep K [v] H Q := .inl ⟨v, d, rfl, h, h1, h2, h3, q⟩
theorem g_append {l : Addr} {xs : List V} {y : V} (h : H l = some (.lst xs)) (z : xs.length < sizeLine) (q : ∀ H', Keep [l] H H' → H' l = some (.lst (xs ++ [y])) → Q .non H') : uAppend (.ref l) [y] H Q := ⟨l, xs, y, rfl, rfl, h, z, q⟩
theorem g_listL {p : Addr} {ys : List V} (h : H p = some (.lst ys)) (q : ∀ l H', H l = none → Keep [] H H' → H' l = some (.lst ys) → Q (.ref l) H') : uList K [.ref p] H Q := ⟨p, ys, rfl, .inl (lst_sq h), q⟩
theorem g_listT {p : Addr} {ys : List V} (h : Tup H p ys) (q : ∀ l H', H l = none → Keep [] H H' → H' l = some (.lst ys) → Q (.ref l) H') : uList K [.ref p] H Q := ⟨p, ys, rfl, .inr h.sq, q⟩
theorem g_tupleL {p : Addr} {ys : List V} (h : H p = some (.lst ys)) (q : ∀ l H', H l = none → Keep [] H H' → Tup H' l ys → Q (.ref l) H') : uTuple K [.ref p] H Q := ⟨p, ys, rfl, .inl ⟨lst_sq h, q⟩⟩
theorem g_slL {p : Addr} {xs : List V} {lo hi : Option Int} (h : SqL K H p xs) (q : ∀ l H', H l = none → Keep [] H H' → H' l = some (.lst (cutV xs lo hi)) → Q (.ref l) H') : uSl K (.ref p) lo hi H Q := .inl ⟨p, xs, rfl, h, q⟩
theorem g_slS {z : Str} {lo hi : Option Int} (h : z.length ≤ sizeLine) (q : Q (.str (cutS z lo hi)) H) : uSl K (.str z) lo hi H Q := .inr (.inl ⟨z, rfl, h, q⟩)
theorem cut_all {xs : List V} {lo hi : Option Int} (h : HT.sIx xs.length 0 lo = 0 ∧ HT.sIx xs.length xs.length hi = xs.length) : cutV xs lo hi = xs := by
  unfold cutV
  rw [h.1, h.2]
  exact List.take_length
theorem g_slT {p : Addr} {xs : List V} {lo hi : Option Int} (h : Tup H p xs) (q : ∀ l H', Keep [] H H' → Tup H' l (cutV xs lo hi) → Q (.ref l) H') : uSl K (.ref p) lo hi H Q := by
  refine .inr (.inr ⟨p, xs, rfl, h, fun e => ?_, fun _ l H' _ k t => q l H' k t⟩)
  exact q p H (Keep.refl _ _) (by rw [cut_all e]; exact h)
/-- a slot's value by its place -/
theorem at_lit {α : Type} {xs : List α} {v : α} {i : Int} (j : Nat) (e : i = (j : Int)) (h : xs[j]? = some v) : atI xs i = some v := by
  subst e
  exact atI_nat h
end

/-! ### what isinstance tells -/
section
variable {K : PySem.W.Frag} {H : Hp} {Q : VK}
theorem ty_tup {a : Addr} {xs : List V} (h : Tup H a xs) : TyX K H (.ref a) (.type "tuple") := let ⟨_, e, _⟩ := h; .fTuple e
theorem g_isi {x : V} {n T : String} {k : Bool} (h : TyX K H x (.type n)) (e : kitB n T = some k) (q : Q (.bl k) H) : rIsi K [x, .ty T] H Q := ⟨x, .ty T, _, _, k, rfl, .ty T, h, kit_ty e, q⟩
end
theorem kit_int_int : kitB "int" "int" = some true := by decide +kernel
theorem kit_bool_int : kitB "bool" "int" = some true := by decide +kernel
theorem kit_str_int : kitB "str" "int" = some false := by decide +kernel
theorem kit_none_int : kitB "NoneType" "int" = some false := by decide +kernel
theorem kit_list_int : kitB "list" "int" = some false := by decide +kernel
theorem kit_tuple_int : kitB "tuple" "int" = some false := by decide +kernel
theorem kit_dict_int : kitB "dict" "int" = some false := by decide +kernel
theorem kit_int_bool : kitB "int" "bool" = some false := by decide +kernel
theorem kit_bool_bool : kitB "bool" "bool" = some true := by decide +kernel
theorem kit_str_bool : kitB "str" "bool" = some false := by decide +kernel
theorem kit_none_bool : kitB "NoneType" "bool" = some false := by decide +kernel
theorem kit_list_bool : kitB "list" "bool" = some false := by decide +kernel
theorem kit_tuple_bool : kitB "tuple" "bool" = some false := by decide +kernel
theorem kit_dict_bool : kitB "dict" "bool" = some false := by decide +kernel
end Wg

/-! Wagon, part 6: how long what repr tells is; things as a law's lists hold them. -/
namespace Wg
open PySem PySem.Spec PyProof.Rows L2

/-! ### how long -/
mutual
def cost : PyData → Nat
  | .none => 4
  | .bool _ => 5
  | .int _ => 1921
  | .str x => 10 * x.length + 2
  | .list xs => costs xs + 2
  | .tuple xs => costs xs + 3
  | .dict kvs => costKv kvs + 2
def costs : List PyData → Nat
  | [] => 0
  | x :: xs => cost x + 2 + costs xs
def costKv : List (PyData × PyData) → Nat
  | [] => 0
  | (k, v) :: r => cost k + 2 + cost v + 2 + costKv r
end
/-- texts of moderate signs, whole numbers that str can write -/
def signsOk (x : Str) : Prop := ∀ c ∈ x.cps.toList, c < 16 ^ 8
mutual
def fine : PyData → Prop
  | .none => True
  | .bool _ => True
  | .int i => i.natAbs.log2 < 1920
  | .str x => signsOk x
  | .list xs => fines xs
  | .tuple xs => fines xs
  | .dict kvs => fineKv kvs
def fines : List PyData → Prop
  | [] => True
  | x :: xs => fine x ∧ fines xs
def fineKv : List (PyData × PyData) → Prop
  | [] => True
  | (k, v) :: r => fine k ∧ fine v ∧ fineKv r
end
mutual
theorem fine_show : ∀ {d : PyData}, fine d → d.showable = true
  | .none, _ => rfl
  | .bool _, _ => rfl
  | .int i, h => decide_eq_true h
  | .str _, _ => rfl
  | .list xs, h => by simp only [PyData.showable]; exact fines_show h
  | .tuple xs, h => by simp only [PyData.showable]; exact fines_show h
  | .dict kvs, h => by simp only [PyData.showable]; exact fineKv_show h
theorem fines_show : ∀ {ds : List PyData}, fines ds → PyData.showableAll ds = true
  | [], _ => rfl
  | d :: ds, h => by simp only [PyData.showableAll, Bool.and_eq_true]; exact ⟨fine_show h.1, fines_show h.2⟩
theorem fineKv_show : ∀ {ds : List (PyData × PyData)}, fineKv ds → PyData.showableKv ds = true
  | [], _ => rfl
  | (k, v) :: ds, h => by simp only [PyData.showableKv, Bool.and_eq_true]; exact ⟨⟨fine_show h.1, fine_show h.2.1⟩, fineKv_show h.2.2⟩
end
theorem list_text (ts : List Str) : (listText ts).length ≤ piled ts + 2 := by
  have key : ∀ (ts : List Str) (k : Nat) (acc : Str), (textFrom k acc ts).length ≤ acc.length + piled ts := by
    intro ts
    induction ts with
    | nil =>
      intro k acc
      simp [textFrom, piled]
    | cons t r ih =>
      intro k acc
      have q := ih (k + 1) (acc ++ (if k > 0 then ", " else "" : String) ++ t)
      have e2 : (((if k > 0 then ", " else "" : String) : Str)).length ≤ 2 := by split <;> decide +kernel
      rw [strLen_append, strLen_append] at q
      show (textFrom (k + 1) (acc ++ (if k > 0 then ", " else "" : String) ++ t) r).length ≤ _
      rw [piled_cons]
      omega
  unfold listText
  have e1 : (("[" : String) : Str).length = 1 := rfl
  have e2 : (("]" : String) : Str).length = 1 := rfl
  have q := key ts 0 "["
  rw [strLen_append, e2]
  rw [e1] at q
  omega
theorem tuple_text (ts : List Str) : (tupleText ts).length ≤ piled ts + 3 := by
  unfold tupleText
  have e1 : (("(" : String) : Str).length = 1 := rfl
  have e3 : (((if ts.length == 1 then ",)" else ")" : String) : Str)).length ≤ 2 := by split <;> decide +kernel
  rw [strLen_append, strLen_append, e1]
  by_cases h : ts = []
  · subst h
    decide +kernel
  · have := join_length_add ts h
    omega
theorem dict_text (ts : List Str) : (dictText ts).length ≤ piled ts + 2 := by
  unfold dictText
  have e1 : (("{" : String) : Str).length = 1 := rfl
  have e3 : (("}" : String) : Str).length = 1 := rfl
  rw [strLen_append, strLen_append, e1, e3]
  by_cases h : ts = []
  · subst h
    decide +kernel
  · have := join_length_add ts h
    omega
mutual
theorem shown_le : ∀ {d : PyData}, fine d → d.shown.length ≤ cost d
  | .none, _ => by decide +kernel
  | .bool b, _ => by cases b <;> decide +kernel
  | .int i, h => by
    simp only [PyData.shown, cost]
    rw [PySem.ofString_length]
    exact int_text_length_le (by decide) h
  | .str x, h => by
    simp only [PyData.shown, cost]
    exact StrLaws.reprText_len x h
  | .list xs, h => by
    simp only [PyData.shown, cost]
    have := list_text (PyData.shownAll xs)
    have := shownAll_le h
    omega
  | .tuple xs, h => by
    simp only [PyData.shown, cost]
    have := tuple_text (PyData.shownAll xs)
    have := shownAll_le h
    omega
  | .dict kvs, h => by
    simp only [PyData.shown, cost]
    have := dict_text (PyData.shownKv kvs)
    have := shownKv_le h
    omega
theorem shownAll_le : ∀ {ds : List PyData}, fines ds → piled (PyData.shownAll ds) ≤ costs ds
  | [], _ => Nat.le_refl _
  | d :: ds, h => by
    have h1 := shown_le h.1
    have h2 := shownAll_le h.2
    simp only [PyData.shownAll, costs, piled_cons]
    omega
theorem shownKv_le : ∀ {ds : List (PyData × PyData)}, fineKv ds → piled (PyData.shownKv ds) ≤ costKv ds
  | [], _ => Nat.le_refl _
  | (k, v) :: ds, h => by
    have h1 := shown_le h.1
    have h2 := shown_le h.2.1
    have h3 := shownKv_le h.2.2
    have e : ((": " : String) : Str).length = 2 := rfl
    simp only [PyData.shownKv, costKv, piled_cons, strLen_append, e]
    omega
end
mutual
theorem Dp.keep {K : PySem.W.Frag} {H H' : Hp} (k : Keep [] H H') : ∀ {v : V} {d : PyData}, Dp K H v d → Dp K H' v d
  | _, _, .non => .non
  | _, _, .bl b => .bl b
  | _, _, .int i => .int i
  | _, _, .str x => .str x
  | _, _, .lst h q => .lst (sq_keep h k nin0) (DpAll.keep k q)
  | _, _, .tup h q => .tup (by
      rcases h with (h | ⟨o, h⟩) | h
      · exact .inl (.inl (k _ _ nin0 h))
      · exact .inl (.inr ⟨o, k _ _ nin0 h⟩)
      · exact .inr h) (DpAll.keep k q)
theorem DpAll.keep {K : PySem.W.Frag} {H H' : Hp} (k : Keep [] H H') : ∀ {vs : List V} {ds : List PyData}, DpAll K H vs ds → DpAll K H' vs ds
  | _, _, .nil => .nil
  | _, _, .cons h q => .cons (Dp.keep k h) (DpAll.keep k q)
end
/-- a thing that repr tells -/
inductive Th (K : PySem.W.Frag) (H : Hp) : V → PyData → Prop
  | dp {v : V} {d : PyData} : Dp K H v d → fine d → cost d ≤ 10000000 → d.depth ≤ 100 → Th K H v d
  | dic {a : Addr} {kvs : List (Key × V)} {ds : List PyData} : H a = some (.dK kvs) → DtAll K H (kvs.map (·.2)) ds → fine (.dict ((kvs.map fun p => keyD p.1).zip ds)) → cost (.dict ((kvs.map fun p => keyD p.1).zip ds)) ≤ 10000000 →
      (PyData.dict ((kvs.map fun p => keyD p.1).zip ds)).depth ≤ 100 → Th K H (.ref a) (.dict ((kvs.map fun p => keyD p.1).zip ds))
theorem line_big {n : Nat} (h : n ≤ 10000000) : n ≤ sizeLine := by
  rw [sizeLine_eq]
  omega
theorem g_rep {K : PySem.W.Frag} {H : Hp} {v : V} {d : PyData} {Q : VK} (h : Th K H v d) (q : Q (.str d.shown) H) : uRep K [v] H Q := by
  cases h with
  | dp h1 h2 h3 h4 => exact .inl ⟨v, d, rfl, h1, fine_show h2, h4, Nat.le_trans (shown_le h2) (line_big h3), q⟩
  | dic h1 h2 h3 h4 h5 => exact .inr ⟨_, _, _, rfl, h1, h2, fine_show h3, h5, Nat.le_trans (shown_le h3) (line_big h4), q⟩
theorem Th.keep {K : PySem.W.Frag} {H H' : Hp} (k : Keep [] H H') {v : V} {d : PyData} (h : Th K H v d) : Th K H' v d := by
  cases h with
  | dp h1 h2 h3 h4 => exact .dp (Dp.keep k h1) h2 h3 h4
  | dic h1 h2 h3 h4 h5 => exact .dic (k _ _ nin0 h1) (h2.keep k fun _ _ _ => nin0) h3 h4 h5
end Wg

/-! Wagon, part 7: loops and comprehensions by what holds ahead of each turn. -/
namespace Wg
open PySem PySem.Spec PyProof.Rows L2

/-- n turns, the i-th with the item it i -/
def Loop (n : Nat) (it : Nat → V) (g : TG) (tb : TS) (D : Ends) (σ : L2.St) (H : Hp) : Prop :=
  ∃ Pv : Nat → L2.St → Hp → Prop, Pv 0 σ H ∧ (∀ i σ H, i < n → Pv i σ H → g (it i) σ H fun σ2 H2 => tb { D with nx := Pv (i + 1), ct := Pv (i + 1), bk := D.nx } σ2 H2) ∧ ∀ σ H, Pv n σ H → D.nx σ H
/-- the same, told of the argument's end -/
theorem L_range1 {g : TG} {tb : TS} {D : Ends} {σ : L2.St} {H1 : Hp} {j : Int} (b1 : -(2 ^ 62) ≤ j) (b2 : j < 2 ^ 62) (h : Loop j.toNat (fun i => .int (i : Nat)) g tb D σ H1) :
    ∃ k : Int, [V.int j] = [V.int k] ∧ -(2 ^ 62) ≤ k ∧ k < 2 ^ 62 ∧ ∃ W : Nat → Nat → L2.St → Hp → Prop, (∃ m, W 0 m σ H1) ∧ ∀ i m σ H, W i m σ H →
      ((Itr 0 k.toNat).stop i H ∧ D.nx σ H) ∨ ((Itr 0 k.toNat).go i H ∧ ∃ N : L2.St → Hp → Prop, (∀ σ' H', N σ' H' → ∃ m', m' < m ∧ W (i + 1) m' σ' H') ∧ ∀ x H', (Itr 0 k.toNat).yld i H x H' → g x σ H' fun σ2 H2 => tb { D with nx := N, ct := N, bk := D.nx } σ2 H2) := by
  obtain ⟨Pv, p0, ps, pd⟩ := h
  refine ⟨j, rfl, b1, b2, for_range (lo := 0) (n := j.toNat) Pv p0 (fun i σ H hi p => ?_) pd⟩
  have q := ps i σ H hi p
  rw [Int.zero_add]
  exact q
/-- what a for over range asks, behind its argument -/
def FR1 (g : TG) (tb : TS) (D : Ends) (σ : L2.St) (vs : List V) (H1 : Hp) : Prop := ∃ j : Int, vs = [.int j] ∧ -(2 ^ 62) ≤ j ∧ j < 2 ^ 62 ∧ ∃ W : Nat → Nat → L2.St → Hp → Prop, (∃ m, W 0 m σ H1) ∧ ∀ i m σ H, W i m σ H →
  ((Itr 0 j.toNat).stop i H ∧ D.nx σ H) ∨ ((Itr 0 j.toNat).go i H ∧ ∃ N : L2.St → Hp → Prop, (∀ σ' H', N σ' H' → ∃ m', m' < m ∧ W (i + 1) m' σ' H') ∧ ∀ x H', (Itr 0 j.toNat).yld i H x H' → g x σ H' fun σ2 H2 => tb { D with nx := N, ct := N, bk := D.nx } σ2 H2)
theorem e_for1 {ta : TA} {g : TG} {tb : TS} {D : Ends} {σ : L2.St} {H : Hp} : tFor (iRng1 ta) g tb D σ H ↔ ta σ H (FR1 g tb D σ) := Iff.rfl
theorem g_FR1 {g : TG} {tb : TS} {D : Ends} {σ : L2.St} {H1 : Hp} {j : Int} (b1 : -(2 ^ 62) ≤ j) (b2 : j < 2 ^ 62) (h : Loop j.toNat (fun i => .int (i : Nat)) g tb D σ H1) : FR1 g tb D σ [.int j] H1 := L_range1 b1 b2 h
def FR2 (g : TG) (tb : TS) (D : Ends) (σ : L2.St) (vs : List V) (H1 : Hp) : Prop := ∃ i0 j : Int, vs = [.int i0, .int j] ∧ (-(2 ^ 62) ≤ i0 ∧ i0 < 2 ^ 62 ∧ -(2 ^ 62) ≤ j ∧ j < 2 ^ 62) ∧ ∃ W : Nat → Nat → L2.St → Hp → Prop, (∃ m, W 0 m σ H1) ∧ ∀ i m σ H, W i m σ H →
  ((Itr i0 (j - i0).toNat).stop i H ∧ D.nx σ H) ∨ ((Itr i0 (j - i0).toNat).go i H ∧ ∃ N : L2.St → Hp → Prop, (∀ σ' H', N σ' H' → ∃ m', m' < m ∧ W (i + 1) m' σ' H') ∧ ∀ x H', (Itr i0 (j - i0).toNat).yld i H x H' → g x σ H' fun σ2 H2 => tb { D with nx := N, ct := N, bk := D.nx } σ2 H2)
theorem e_for2 {ta : TA} {g : TG} {tb : TS} {D : Ends} {σ : L2.St} {H : Hp} : tFor (iRng2 ta) g tb D σ H ↔ ta σ H (FR2 g tb D σ) := Iff.rfl
/-- a for over a list, a tuple, a text, behind it -/
def FU (K : PySem.W.Frag) (g : TG) (tb : TS) (D : Ends) (σ : L2.St) (x : V) (H1 : Hp) : Prop := iU K (tC x) σ H1 fun J H1 => ∃ W : Nat → Nat → L2.St → Hp → Prop, (∃ m, W 0 m σ H1) ∧ ∀ i m σ H, W i m σ H →
  (J.stop i H ∧ D.nx σ H) ∨ (J.go i H ∧ ∃ N : L2.St → Hp → Prop, (∀ σ' H', N σ' H' → ∃ m', m' < m ∧ W (i + 1) m' σ' H') ∧ ∀ x H', J.yld i H x H' → g x σ H' fun σ2 H2 => tb { D with nx := N, ct := N, bk := D.nx } σ2 H2)
theorem e_forU {K : PySem.W.Frag} {tl : TE} {g : TG} {tb : TS} {D : Ends} {σ : L2.St} {H : Hp} : tFor (iU K tl) g tb D σ H ↔ tl σ H (FU K g tb D σ) := Iff.rfl
/-- over a list that stands still -/
theorem g_FL {K : PySem.W.Frag} {g : TG} {tb : TS} {D : Ends} {σ : L2.St} {H1 : Hp} {a : Addr} {xs : List V} (Pv : Nat → L2.St → Hp → Prop) (h : SqL K H1 a xs) (h0 : Pv 0 σ H1) (hl : ∀ i σ H, i ≤ xs.length → Pv i σ H → SqL K H a xs)
    (hs : ∀ i x σ H, xs[i]? = some x → Pv i σ H → g x σ H fun σ2 H2 => tb { D with nx := Pv (i + 1), ct := Pv (i + 1), bk := D.nx } σ2 H2) (hd : ∀ σ H, Pv xs.length σ H → D.nx σ H) : FU K g tb D σ (.ref a) H1 :=
  .inl ⟨a, xs, rfl, h, for_list Pv h0 hl hs hd⟩
theorem g_FT {K : PySem.W.Frag} {g : TG} {tb : TS} {D : Ends} {σ : L2.St} {H1 : Hp} {a : Addr} {xs : List V} (Pv : Nat → L2.St → Hp → Prop) (h : Tup H1 a xs) (h0 : Pv 0 σ H1) (hl : ∀ i σ H, i ≤ xs.length → Pv i σ H → Tup H a xs)
    (hs : ∀ i x σ H, xs[i]? = some x → Pv i σ H → g x σ H fun σ2 H2 => tb { D with nx := Pv (i + 1), ct := Pv (i + 1), bk := D.nx } σ2 H2) (hd : ∀ σ H, Pv xs.length σ H → D.nx σ H) : FU K g tb D σ (.ref a) H1 :=
  .inr (.inl ⟨a, xs, rfl, h.sq, for_tup Pv h0 (fun i σ H l p => (hl i σ H l p).sq) hs hd⟩)
/-- the script: locked, or an object of the module -/
def Scr (K : PySem.W.Frag) (H : Hp) (a : Addr) (xs : List V) : Prop :=
  (∃ o, H a = some (.frz o (.lst xs))) ∨ ∃ (o : Obj) (its : Array Value) (n : Nat), K.lookup a = some o ∧ o.cls = .type "list" ∧ o.dict = none ∧ o.data = .seq its n ∧ its.size ≤ sizeLine ∧ Vals xs its.toList
theorem Scr.sq {K : PySem.W.Frag} {H : Hp} {a : Addr} {xs : List V} (h : Scr K H a xs) : SqL K H a xs := h.elim (fun h => .inl (.inr h)) .inr
theorem Scr.keep {K : PySem.W.Frag} {S : List Addr} {H H' : Hp} {a : Addr} {xs : List V} (h : Scr K H a xs) (k : Keep S H H') (n : ∀ o, H a = some o → a ∉ S) : Scr K H' a xs :=
  h.elim (fun ⟨o, e⟩ => .inl ⟨o, k _ _ (n _ e) e⟩) .inr
theorem Scr.keep0 {K : PySem.W.Frag} {H H' : Hp} {a : Addr} {xs : List V} (h : Scr K H a xs) (k : Keep [] H H') : Scr K H' a xs := h.keep k fun _ _ => nin0
/-- a new object comes and is changed -/
theorem Scr.past {K : PySem.W.Frag} {H H1 H2 : Hp} {a p : Addr} {xs : List V} (h : Scr K H a xs) (n : H p = none) (k1 : Keep [] H H1) (k2 : Keep [p] H1 H2) : Scr K H2 a xs :=
  h.elim (fun ⟨o, e⟩ => .inl ⟨o, k2 _ _ (nin1 (ne_of_none e n)) (k1 _ _ nin0 e)⟩) .inr
theorem Scr.of {K : PySem.W.Frag} {H : Hp} {a : Addr} {xs : List V} (o : Only H) (h : SqL K H a xs) : Scr K H a xs := by
  rcases h with (h | h) | h
  · rcases o a with z | ⟨ob, ys, z⟩
    · exact nomatch z.symm.trans h
    · exact nomatch z.symm.trans h
  · exact .inl h
  · exact .inr h
theorem e_ten6 : (10 : Int) ^ (6 : Int).toNat = 1000000 := by decide
theorem e_ten18 : (10 : Int) ^ (18 : Int).toNat = 1000000000000000000 := by decide
theorem e_ten60 : (10 : Int) ^ (60 : Int).toNat = 10 ^ 60 := rfl
theorem len1 {α : Type} {a : α} : [a].length ≤ sizeLine := by show 1 ≤ sizeLine; decide
theorem len_le {n : Nat} (h : n ≤ 1000000) : n ≤ sizeLine := by
  rw [sizeLine_eq]
  omega
theorem len_lt {n : Nat} (h : n ≤ 1000000) : n < sizeLine := by
  rw [sizeLine_eq]
  omega
end Wg

/-! Wagon, part 8: comprehensions, places of texts in tuples, join, split. -/
namespace Wg
open PySem PySem.Spec PyProof.Rows L2

theorem Keep.past {S : List Addr} {H H1 H2 : Hp} {d : Addr} (k1 : Keep S H H1) (k2 : Keep [d] H1 H2) (n : H d = none) : Keep S H H2 := fun b o hb e =>
  k2 b o (nin1 (ne_of_none e n)) (k1 b o hb e)

/-! ### comprehensions -/
/-- n turns: acc is what is made so far, D the new list; R: what is wanted of an element, R0: of a turn without one -/
def CLoop (S : List Addr) (n : Nat) (it : Nat → V) (g : TG) (tt : TT) (te : TE) (vs : List Nat) (σ : L2.St) (H1 : Hp) (Q : VK) : Prop :=
  ∃ P : Nat → Hp → List V → Prop, (∀ D H2, H1 D = none → Keep [] H1 H2 → P 0 H2 []) ∧
    (∀ D i H acc (R : VK) (R0 : Hp → Prop), H1 D = none → i < n → Keep S H1 H → H D = some (.lst acc) → P i H acc →
      (∀ y H4, Keep S H H4 → acc.length < sizeLine → (∀ H5, Keep [D] H4 H5 → P (i + 1) H5 (acc ++ [y])) → R y H4) → (∀ H3, Keep S H H3 → P (i + 1) H3 acc → R0 H3) →
      g (it i) (wipe σ vs) H fun σ2 H2 => wipe σ2 vs = wipe σ vs ∧ tt σ2 H2 fun b H3 => if b = true then te σ2 H3 R else R0 H3) ∧
    ∀ D H acc, H1 D = none → Keep S H1 H → H D = some (.lst acc) → P n H acc → Q (.ref D) H
/-- what a comprehension asks behind its source's value -/
def CB (J : It) (g : TG) (tt : TT) (te : TE) (vs : List Nat) (σ : L2.St) (Q : VK) (H1 : Hp) : Prop := ∀ D, H1 D = none → ∃ W : Nat → Nat → Hp → Prop, (∃ m, W 0 m (upd H1 D (.lst []))) ∧ ∀ i m H, W i m H →
  (J.stop i H ∧ Q (.ref D) H) ∨ (J.go i H ∧ ∃ Nx : Hp → Prop, (∀ H', Nx H' → ∃ m', m' < m ∧ W (i + 1) m' H') ∧ ∀ x H', J.yld i H x H' → g x (wipe σ vs) H' fun σ2 H2 => wipe σ2 vs = wipe σ vs ∧ tt σ2 H2 fun b H3 =>
    if b = true then te σ2 H3 fun y H4 => ∃ acc, H4 D = some (.lst acc) ∧ acc.length < sizeLine ∧ Nx (upd H4 D (.lst (acc ++ [y]))) else Nx H3)
def CU (K : PySem.W.Frag) (g : TG) (tt : TT) (te : TE) (vs : List Nat) (σ : L2.St) (Q : VK) (x : V) (H1 : Hp) : Prop := iU K (tC x) σ H1 fun J H1 => CB J g tt te vs σ Q H1
theorem e_lcU {K : PySem.W.Frag} {tl : TE} {g : TG} {tt : TT} {te : TE} {vs : List Nat} {σ : L2.St} {H : Hp} {Q : VK} : tLc (iU K tl) g tt te vs σ H Q ↔ tl σ H (CU K g tt te vs σ Q) := Iff.rfl
def CR1 (g : TG) (tt : TT) (te : TE) (vs : List Nat) (σ : L2.St) (Q : VK) (xs : List V) (H1 : Hp) : Prop := ∃ j : Int, xs = [.int j] ∧ -(2 ^ 62) ≤ j ∧ j < 2 ^ 62 ∧ CB (Itr 0 j.toNat) g tt te vs σ Q H1
theorem e_lcR1 {ta : TA} {g : TG} {tt : TT} {te : TE} {vs : List Nat} {σ : L2.St} {H : Hp} {Q : VK} : tLc (iRng1 ta) g tt te vs σ H Q ↔ ta σ H (CR1 g tt te vs σ Q) := Iff.rfl
/-- from CLoop: J yields it i at turn i and stops at n, as long as what was there ahead is kept -/
theorem cb_of {S : List Addr} {n : Nat} {it : Nat → V} {J : It} {g : TG} {tt : TT} {te : TE} {vs : List Nat} {σ : L2.St} {H1 : Hp} {Q : VK} (hS : ∀ b ∈ S, ∃ o, H1 b = some o)
    (hgo : ∀ i H, i < n → Keep S H1 H → J.go i H) (hy : ∀ i H x H', i < n → Keep S H1 H → J.yld i H x H' → x = it i ∧ H' = H) (hst : ∀ H, Keep S H1 H → J.stop n H)
    (h : CLoop S n it g tt te vs σ H1 Q) : CB J g tt te vs σ Q H1 := by
  intro D hD
  obtain ⟨P, p0, ps, pd⟩ := h
  have nD : D ∉ S := fun z => by
    obtain ⟨o, e⟩ := hS D z
    exact nomatch hD.symm.trans e
  refine ⟨fun i m H => m = n - i ∧ i ≤ n ∧ Keep S H1 H ∧ ∃ acc, H D = some (.lst acc) ∧ P i H acc, ⟨n, by omega, by omega, (Keep.new hD).all, [], upd_same, p0 D _ hD (Keep.new hD)⟩, ?_⟩
  rintro i m H ⟨rfl, hi, k, acc, eD, p⟩
  by_cases hlt : i < n
  · refine .inr ⟨hgo i H hlt k, fun H' => i + 1 ≤ n ∧ Keep S H1 H' ∧ ∃ acc, H' D = some (.lst acc) ∧ P (i + 1) H' acc, fun H' q => ⟨n - (i + 1), by omega, rfl, q⟩, fun x H' y => ?_⟩
    obtain ⟨ex, eh⟩ := hy i H x H' hlt k y
    rw [ex, eh]
    exact ps D i H acc _ _ hD hlt k eD p (fun y H4 k4 z q => ⟨acc, k4 _ _ nD eD, z, hlt, (k.trans k4).past Keep.set hD, _, upd_same, q _ Keep.set⟩) fun H3 k3 q => ⟨hlt, k.trans k3, acc, k3 _ _ nD eD, q⟩
  · have e : i = n := by omega
    subst e
    exact .inl ⟨hst H k, pd D H acc hD k eD p⟩
theorem g_CR1 {S : List Addr} {g : TG} {tt : TT} {te : TE} {vs : List Nat} {σ : L2.St} {H1 : Hp} {Q : VK} {j : Int} (hS : ∀ b ∈ S, ∃ o, H1 b = some o) (b1 : -(2 ^ 62) ≤ j) (b2 : j < 2 ^ 62)
    (h : CLoop S j.toNat (fun i => .int (i : Nat)) g tt te vs σ H1 Q) : CR1 g tt te vs σ Q [.int j] H1 := by
  refine ⟨j, rfl, b1, b2, cb_of hS (fun i H hi _ => hi) (fun i H x H' hi _ y => ?_) (fun H _ => Nat.le_refl _) h⟩
  obtain ⟨e1, e2⟩ := y
  exact ⟨by rw [e2, Int.zero_add], e1⟩
theorem g_CL {S : List Addr} {K : PySem.W.Frag} {g : TG} {tt : TT} {te : TE} {vs : List Nat} {σ : L2.St} {H1 : Hp} {Q : VK} {a : Addr} {xs : List V} (hS : ∀ b ∈ S, ∃ o, H1 b = some o) (hx : H1 a = some (.lst xs)) (na : a ∉ S)
    (h : CLoop S xs.length (fun i => xs.getD i .non) g tt te vs σ H1 Q) : CU K g tt te vs σ Q (.ref a) H1 := by
  refine .inl ⟨a, xs, rfl, lst_sq hx, cb_of hS (fun i H hi k => ⟨xs, xs[i], lst_sq (k _ _ na hx), List.getElem?_eq_getElem hi⟩) (fun i H x H' hi k y => ?_) (fun H k => ⟨xs, lst_sq (k _ _ na hx), Nat.le_refl _⟩) h⟩
  obtain ⟨e1, e2⟩ := y
  have := e2 xs (lst_sq (k _ _ na hx))
  exact ⟨by rw [List.getD_eq_getElem?_getD, this]; rfl, e1⟩
theorem g_CT {S : List Addr} {K : PySem.W.Frag} {g : TG} {tt : TT} {te : TE} {vs : List Nat} {σ : L2.St} {H1 : Hp} {Q : VK} {a : Addr} {xs : List V} (hS : ∀ b ∈ S, ∃ o, H1 b = some o) (hx : Tup H1 a xs) (na : a ∉ S)
    (h : CLoop S xs.length (fun i => xs.getD i .non) g tt te vs σ H1 Q) : CU K g tt te vs σ Q (.ref a) H1 := by
  refine .inr (.inl ⟨a, xs, rfl, hx.sq, cb_of hS (fun i H hi k => ⟨xs, xs[i], (hx.keep k na).sq, List.getElem?_eq_getElem hi⟩) (fun i H x H' hi k y => ?_) (fun H k => ⟨xs, (hx.keep k na).sq, Nat.le_refl _⟩) h⟩)
  obtain ⟨e1, e2⟩ := y
  have := e2 xs (hx.keep k na).sq
  exact ⟨by rw [List.getD_eq_getElem?_getD, this]; rfl, e1⟩
theorem g_CS {S : List Addr} {K : PySem.W.Frag} {g : TG} {tt : TT} {te : TE} {vs : List Nat} {σ : L2.St} {H1 : Hp} {Q : VK} {z : Str} (hS : ∀ b ∈ S, ∃ o, H1 b = some o)
    (h : CLoop S z.cps.size (fun i => .str ⟨#[z.cps.getD i 0]⟩) g tt te vs σ H1 Q) : CU K g tt te vs σ Q (.str z) H1 := by
  refine .inr (.inr ⟨z, rfl, cb_of hS (fun i H hi k => hi) (fun i H x H' hi k y => ?_) (fun H k => Nat.le_refl _) h⟩)
  obtain ⟨e1, c, e2, e3⟩ := y
  refine ⟨?_, e1⟩
  rw [e3, Array.getD_eq_getD_getElem?, e2]
  rfl

/-! ### a text's place in a tuple of texts -/
section
variable {X : Cx} {o e : Expr} {to te : TE} {apos cpos : Pos}
def tIdx (K : PySem.W.Frag) (to : TE) (t : TA) : TE := fun σ H Q => to σ H fun x H1 => ∃ (a : Addr) (ys : List Str), x = .ref a ∧ Tup H1 a (ys.map V.str) ∧ t σ H1 fun vs H2 =>
  ∃ (z : Str) (j : Nat), vs = [.str z] ∧ Tup H2 a (ys.map V.str) ∧ ys[j]? = some z ∧ (∀ m, m < j → ys[m]? ≠ some z) ∧ Q (.int (j : Nat)) H2
theorem pe_idx {t : TA} (ho : PE X o to) (ha : PA X [e] t) (hbase : attributeBase o "index" X.env (eval o X.env) = eval o X.env := by rfl)
    (hfew : ((backTo cpos (starEach [e] X.env)).all (fun x => !x.1) && (backToKw cpos (keywordEach [] X.env)).all (fun x => x.1.isSome)
      && decide (([e] : List Expr).length + ([] : List Keyword).length + (if ([] : List Keyword).isEmpty then 0 else 1) < 30)) = true := by rfl)
    (hline : (apos.endLine == cpos.line) = true := by rfl) (hs : starEach [e] X.env = (false, eval e X.env) :: starEach [] X.env := by rfl) (hplain : (backTo cpos (starEach [] X.env)).any (·.1) = false := by rfl) :
    PE X (.Call (.Attribute o "index" apos) [e] [] cpos) (tIdx X.K to t) := by
  constructor
  intro pins s σ H Q I h
  have run := ho.run pins s σ H _ I h
  refine wpAny_Call_method_late hbase hfew hline rfl (thn run fun v s1 w => ?_)
  obtain ⟨x, H1, I1, r1, a, ys, rfl, tu, q1⟩ := w
  cases r1
  obtain ⟨its, n, rv, z, hob⟩ := tu.obj I1
  refine ⟨"tuple", "tuple.index", PySem.F.plainAttrs_tuple, PySem.F.slot_tuple_index, PySem.F.type_tuple_index, ⟨_, hob, rfl⟩, fun b e => ?_, ?_⟩
  · cases e
    exact ⟨_, hob, rfl⟩
  have args := ha.run cpos pins s1 σ H1 _ I1 q1
  rw [hs] at args ⊢
  refine Calls.callWith_builtin (by show (false || (backTo cpos (starEach [] X.env)).any (·.1)) = false; rw [hplain] <;> rfl) (Calls.evalArgs_plain ?_)
  refine thn args fun us s2 y => ?_
  obtain ⟨vs, H2, I2, r2, zz, j, rfl, t2, ej, em, q2⟩ := y
  exact mt_tup_index pins s2 σ H2 (.ref a) [.str zz] (.ref a) us Q I2 rfl r2 ⟨a, ys, zz, j, rfl, rfl, t2.sq, ej, em, q2⟩
end

/-! ### texts -/
section
variable {X : Cx} {o e : Expr} {to te : TE} {apos pos : Pos}
def uJoin (K : PySem.W.Frag) : V → List V → Hp → VK → Prop := fun x xs H Q => ∃ a p, ∃ ys : List Str, x = .str a ∧ xs = [.ref p] ∧ (SqL K H p (ys.map V.str) ∨ SqT K H p (ys.map V.str)) ∧ (ys.map (·.length)).sum + ys.length * a.length ≤ 16777216 ∧ Q (.str (Txt.join a ys)) H
theorem pe_uJoin (ho : PE X o to) (he : PE X e te) (hs : starEach [e] X.env = [(false, eval e X.env)] := by rfl) (hbase : attributeBase o "join" X.env (eval o X.env) = eval o X.env := by rfl) (hline : (apos.endLine == pos.line) = true := by rfl) :
    PE X (.Call (.Attribute o "join" apos) [e] [] pos) (tM1 (uJoin X.K) to te) := pe_join ho he hs hbase hline
def uSplit : V → List V → Hp → VK → Prop := fun x xs H Q => ∃ a b, x = .str a ∧ xs = [.str b] ∧ (b.length == 0) = false ∧ a.length + 2 ≤ sizeLine ∧ Mk H (.lst ((Txt.split a b).map V.str)) Q
theorem mt_uSplit : MtR X "str.split" uSplit := by
  intro pins s σ H x xs v us Q I rx rs h
  obtain ⟨a, b, e1, e2, h1, h2, q⟩ := h
  exact mt_split pins s σ H x xs v us Q I rx rs ⟨a, b, e1, e2, h1, h2, fun p n => q.at p n⟩
theorem pe_uSplit (ho : PE X o to) (he : PE X e te) (hs : starEach [e] X.env = [(false, eval e X.env)] := by rfl) (hbase : attributeBase o "split" X.env (eval o X.env) = eval o X.env := by rfl) (hline : (apos.endLine == pos.line) = true := by rfl) :
    PE X (.Call (.Attribute o "split" apos) [e] [] pos) (tM1 uSplit to te) := pe_m1 PySem.F.slot_str_split PySem.F.type_str_split mt_uSplit ho he hs hbase hline
end
end Wg

/-! Wagon, part 9: list(reversed(list)). -/
namespace Wg
open PySem PySem.Spec PyProof.Rows L2
section
variable {prog : Program} {w : World} {A : Around} {E : Value → Shared → Prop} {s : Shared}
/-- what a new list takes out of a list walked from behind -/
theorem takes_back {it l S : Addr} {items : Array Value} {R : Result → Shared → Prop} (hh : A.handled = none) (hit : s.heap.IsRevIter it l ((items.size : Int) - 1)) (hl : s.heap.IsList l items) (hne : l ≠ it) (hn : items.size ≤ sizeLine)
    (hSi : S ≠ it) (hSl : S ≠ l) (hS : s.heap.get? S = some { cls := .type "list", data := .seq #[] })
    (hR : ∀ (h' : Heap) (tk : Nat) (acc : Array Value) (c' : Nat), (∀ b o, b ≠ S → b ≠ it → s.heap.get? b = some o → h'.get? b = some o) → h'.get? S = some { cls := .type "list", dict := none, data := .seq acc c', slots := #[] } →
      ItemsOf (fun i v => items[items.size - 1 - i]? = some v) acc items.size → R (.ok (.ret .none)) { s with heap := h', toks := tk }) :
    wpAny (model prog w) A.in1 (Builtin.«list.__init__» ⟨[.ref S, .ref it], []⟩)
      (fun fin s' => match fin with | .done f => R (.ok f) s' | .again c' => c'.quiet = true ∧ codeAny (model prog w) A c' R s') (fun e s' => R (.error e) s') s := by
  have W := (Walks.listRev (prog := prog) (w := w) (A := A.in1) hh it l hne items).toS
  have hSf : S ∉ [it, l] := by simp only [List.mem_cons, List.not_mem_nil, or_false, not_or]; exact ⟨hSi, hSl⟩
  show wpAny _ A.in1 (do let old ← Builtin.List.listItems (.ref S); Builtin.List.listUpdate (.ref S) (fun _ => #[]); letGo old.toList.reverse; Builtin.List.listExtendWith (.ref S) (.ref it) .none) _ _ s
  refine wpAny_bind ?_
  unfold Builtin.List.listItems
  refine wpAny_bind (wpAny_seqItems hS rfl (wpAny_pure ?_))
  show wpAny _ A.in1 (updateSeq S (fun _ => #[]) >>= fun _ => letGo (#[] : Array Value).toList.reverse >>= fun _ => Builtin.List.listExtendWith (.ref S) (.ref it) .none) _ _ s
  refine wpAny_bind (wpAny_updateSeq hS rfl ?_)
  have hS₂ := Heap.get?_update_self (Obj.mapSeq (fun _ => (#[] : Array Value))) hS rfl
  have oth₂ : ∀ b o, b ≠ S → s.heap.get? b = some o → (s.heap.update S (Obj.mapSeq (fun _ => (#[] : Array Value)))).get? b = some o := fun b o hb e => (Heap.get?_update_other _ _ (Ne.symm hb)).trans e
  refine wpAny_bind (wpAny_letGo ?_)
  have hit2 := hit.at (h' := s.heap.update S (Obj.mapSeq (fun _ => (#[] : Array Value)))) fun o e => oth₂ it o (Ne.symm hSi) e
  have hl2 : (s.heap.update S (Obj.mapSeq (fun _ => (#[] : Array Value)))).IsList l items := hl.at fun o e => oth₂ l o (Ne.symm hSl) e
  have hT : ({ s with heap := s.heap.update S (Obj.mapSeq (fun _ => (#[] : Array Value))) } : Shared).TypeIs (.ref it) "list_reverseiterator" := Heap.IsRevIter.typeIs (s := { s with heap := s.heap.update S (Obj.mapSeq (fun _ => (#[] : Array Value))) }) hit2
  have h1 : Builtin.List.listSameRef (.ref S) (.ref it) = false := by simp [Builtin.List.listSameRef, hSi]
  unfold Builtin.List.listExtendWith
  refine wpAny_bind (wpAny_typeOf hT ?_)
  rw [if_neg (by rw [h1]; decide)]
  refine wpAny_bind (wpAny_pyIter_revIter (s := { s with heap := s.heap.update S (Obj.mapSeq (fun _ => (#[] : Array Value))) }) hit2 ?_)
  refine wpAny_bind (wpAny_holding ?_)
  unfold Builtin.List.listLengthHint
  refine wpAny_bind (wpAny_specialOf hT RT.nolen_lri ?_)
  show wpAny _ A.in1 (specialOf (Value.ref it) (Str.ofString "__length_hint__") >>= _) _ _ _
  refine wpAny_bind (wpAny_specialOf hT RT.hint_lri ?_)
  generalize hid : ("list_reverseiterator.__length_hint__" : String) = id0
  wp_delta
  rw [show splitId id0 = some ("list_reverseiterator", "__length_hint__") from by subst hid; decide +kernel]
  subst hid
  refine wpAny_bind (wpAny_isInstance (b := true) hT (by rw [isSubtype_type]; kernel_rfl) ?_)
  refine wpAny_pure ?_
  rw [if_neg (by decide)]
  have e0 : ((items.size : Nat) : Int) - 1 - ((0 : Nat) : Int) = (items.size : Int) - 1 := by omega
  refine wpAny_pure ⟨plainId_quiet F.plain_extend_loop _, codeAny_extend_loopS W hn _ hSf _ items.size 0 _ _ _ rfl (Nat.zero_le _) ⟨Nat.zero_le _, by rw [e0]; exact hit2, hl2⟩ hS₂ (ItemsOf.nil _) fun s' acc' c' hm hS' hacc => ?_⟩
  rw [Moved.eq_with hm]
  refine hR s'.heap s'.toks acc' c' (fun b o h1 h2 e => hm.heap b o (fun hmem => ?_) (oth₂ b o h1 e)) hS' hacc
  rcases List.mem_cons.mp hmem with e' | hmem
  · exact h1 e'
  · exact h2 (List.mem_singleton.mp hmem)
theorem call_list_back {it l : Addr} {items : Array Value} {Q : Value → Shared → Prop} (hh : A.handled = none) (hit : s.heap.IsRevIter it l ((items.size : Int) - 1)) (hl : s.heap.IsList l items) (hne : l ≠ it) (hn : items.size ≤ sizeLine)
    (hQ : ∀ (h' : Heap) (tk : Nat) (acc : Array Value) (c' : Nat), (∀ b o, b ≠ it → s.heap.get? b = some o → h'.get? b = some o) → h'.get? s.heap.objs.size = some { cls := .type "list", dict := none, data := .seq acc c', slots := #[] } →
      ItemsOf (fun i v => items[items.size - 1 - i]? = some v) acc items.size → Q (.ref s.heap.objs.size) { s with heap := h', toks := tk }) :
    wpAny (model prog w) A (call (.type "list") [.ref it]) Q E s := by
  obtain ⟨oi, hoi, _⟩ := id hit
  obtain ⟨ol, hol, _⟩ := id hl
  have hSi : s.heap.objs.size ≠ it := Nat.ne_of_gt (Heap.lt_size hoi)
  have hSl : s.heap.objs.size ≠ l := Nat.ne_of_gt (Heap.lt_size hol)
  refine callType_codes (Q₁ := fun obj s₁ => obj = .ref s.heap.objs.size ∧ s₁ = { s with heap := s.heap.push { cls := .type "list", data := .seq #[] } }) F.called_list (F.typeCall_list_1 _) F.entry_list_init
    (code_list_new _ ⟨rfl, rfl⟩) fun obj s₁ h₁ => ?_
  obtain ⟨rfl, rfl⟩ := h₁
  have hS : (s.heap.push { cls := .type "list", data := .seq #[] }).get? s.heap.objs.size = some { cls := .type "list", data := .seq #[] } := Heap.get?_push_size _ rfl
  refine ⟨⟨_, hS, rfl⟩, F.args_list_init_2 _ _, takes_back (s := { s with heap := s.heap.push { cls := .type "list", data := .seq #[] } }) (A := A.in1) hh (hit.at fun o e => Heap.get?_push_of_some _ e) (hl.push _) hne hn hSi hSl hS fun h' tk acc c' hk hS' hacc => ?_⟩
  refine ⟨rfl, hQ h' tk acc c' (fun b o hb e => hk b o (fun e' => absurd (Heap.lt_size e) (by rw [e']; exact Nat.lt_irrefl _)) hb (Heap.get?_push_of_some _ e)) hS' hacc⟩
end
def uLRev (K : PySem.W.Frag) (te : TE) : TE := fun σ H Q => te σ H fun x H1 => ∃ p ys, x = .ref p ∧ SqL K H1 p ys ∧ Mk H1 (.lst ys.reverse) Q
section
variable {X : Cx}
theorem pe_uLRev {e : Expr} {te : TE} {p p2 pos pos2 : Pos} (hc : X.calm = true) (hg : Gl X "list") (hm : X.mg "list" = none) (hg2 : Gl X "reversed") (hm2 : X.mg "reversed" = none) (he : PE X e te)
    (hs : starEach [e] X.env = (false, eval e X.env) :: starEach [] X.env := by rfl)
    (hs2 : starEach [.Call (.Name "reversed" p2) [e] [] pos2] X.env = (false, eval (.Call (.Name "reversed" p2) [e] [] pos2) X.env) :: starEach [] X.env := by rfl) :
    PE X (.Call (.Name "list" p) [.Call (.Name "reversed" p2) [e] [] pos2] [] pos) (uLRev X.K te) := by
  refine ⟨fun pins s σ H Q I h => ?_⟩
  refine Call_ (ld_blt I hg hm boot_list (PyProof.Rows.callWith_type1 (args_cons (Call_ (ld_blt I hg2 hm2 PyProof.Rows.boot_reversed (PyProof.Rows.callWith_type1 (args_cons (thn (he.run pins s σ H _ I h) fun u s1 ⟨v, H1, I1, r1, q1⟩ => args_nil ?_) hs) hs rfl))) hs2) hs2 rfl))
  obtain ⟨a, xs, ev, hq, q⟩ := q1
  subst ev
  obtain rfl : u = Value.ref a := r1
  obtain ⟨its, rv, p', hz⟩ := I1.list hq
  refine call_reversed_list p'.isList (args_nil ?_)
  have hl := p'.isList
  obtain ⟨ol, hol, _⟩ := id hl
  have hne : a ≠ s1.heap.objs.size := Nat.ne_of_lt (Heap.lt_size hol)
  have hn : its.toArray.size ≤ sizeLine := by rw [List.size_toArray, ← rv.length]; exact hz
  have hsz : (s1.heap.push (revObj a ((its.toArray.size : Int) - 1))).objs.size = s1.heap.objs.size + 1 := by simp [Heap.push]
  refine call_list_back (s := { s1 with heap := s1.heap.push (revObj a ((its.toArray.size : Int) - 1)) }) (I1.ok.hd hc) ⟨_, Heap.get?_push_size _ rfl, rfl, rfl⟩ (hl.push _) hne hn fun h' tk acc c' hk hS hi => ?_
  have k0 : ∀ b o, s1.heap.get? b = some o → h'.get? b = some o := fun b o e => hk b o (Nat.ne_of_lt (Heap.lt_size e)) (Heap.get?_push_of_some _ e)
  have le : s1.heap.objs.size ≤ (s1.heap.push (revObj a ((its.toArray.size : Int) - 1))).objs.size := by rw [hsz]; exact Nat.le_succ _
  refine ⟨.ref _, upd H1 _ (.lst xs.reverse), I1.laid (t' := tk) k0 le (show ObjOk X.prog X.w _ h' _ (.lst xs.reverse) from ⟨by rw [List.length_reverse]; exact hz, acc.toList, c', RT.vals_rev rv hi, ?_⟩), rfl, q.at _ (I1.hok.fresh le)⟩
  rw [Array.toArray_toList]
  exact hS
end
theorem g_lrev {K : PySem.W.Frag} {p : Addr} {ys : List V} {H : Hp} {Q : VK} (h : SqL K H p ys) (q : ∀ l H', H l = none → Keep [] H H' → H' l = some (.lst ys.reverse) → Q (.ref l) H') : ∃ p' ys', V.ref p = .ref p' ∧ SqL K H p' ys' ∧ Mk H (.lst ys'.reverse) Q := ⟨p, ys, rfl, h, q⟩
end Wg

/-! Wagon, part 10: {i: j}. -/
namespace Wg
open PySem PySem.Spec PyProof.Rows L2
section
variable {X : Cx} {pos : Pos}
def tDicI (i j : Int) : TE := fun _ H Q => Mk H (.dK [(.inl i, .int j)]) Q
theorem pe_dicI {k v : Expr} {i j : Int} (hk : PE X k (tC (.int i))) (hv : PE X v (tC (.int j))) : PE X (.Dict [some k] [v] pos) (tDicI i j) := by
  constructor
  intro pins s σ H Q I q
  refine (pe_disp (pps_cons hk hv pps_nil) rfl rfl (by simp) (by simp)).run pins s σ H Q I fun p n => ?_
  refine ⟨upd_same, [(.inl i, .int j)], rfl, by simp, ?_⟩
  rw [upd_upd]
  exact q.at p n
end
end Wg

/-! Wagon, part 11: enumerate(tuple), min of a list. -/
namespace Wg
open PySem PySem.Spec PyProof.Rows L2
theorem en_new (l : Addr) (items : Array Value) (n : Nat) (dct : Option Addr) (sl : Array (Option Value)) :
    Meets (Builtin.«enumerate.__new__» ⟨[.type "enumerate", .ref l], []⟩) (fun _ R s => s.heap.get? l = some { cls := .type "tuple", dict := dct, data := .seq items n, slots := sl } ∧
      R (.ok (.ret (.ref (s.heap.push { cls := .type "tuple_iterator", data := .fields #[.ref l, .int 0 0] }).objs.size)))
        { s with heap := (s.heap.push { cls := .type "tuple_iterator", data := .fields #[.ref l, .int 0 0] }).push { cls := .type "enumerate", data := .fields #[.none, .bool false, .ref s.heap.objs.size, rawInt 0, .none, .none] } }) :=
  .of_wp fun prog w A R s h => by
    obtain ⟨hp, g, d, tk, os⟩ := s
    obtain ⟨hl, h⟩ := h
    have hsub := sub_enumerate
    have hL : Heap.IsTuple (Shared.heap ⟨hp, g, d, tk, os⟩) l items := ⟨_, hl, rfl, n, rfl⟩
    wp_walk using AutoSeq1.wpAny_loadPart' hl
    refine wpAny_stack_any fun st => wpAny_pure ?_
    split
    · rename_i c _ _ _ _ _
      cases (c == Value.type "enumerate")
      · wp_walk using AutoSeq1.wpAny_loadPart' hl, wpAny_pyIter_tuple hL
        exact ⟨_, rfl, h⟩
      · wp_walk using AutoSeq1.wpAny_loadPart' hl, wpAny_pyIter_tuple hL
        exact ⟨_, rfl, h⟩
    · wp_walk using AutoSeq1.wpAny_loadPart' hl, wpAny_pyIter_tuple hL
      exact ⟨_, rfl, h⟩
section
variable {prog : Program} {w : World} {A : Around} {E : Value → Shared → Prop} {s : Shared}
theorem call_en {l : Addr} {items : Array Value} {Q : Value → Shared → Prop} (hL : s.heap.IsTuple l items)
    (h : ∀ h', IsEnum h' (s.heap.objs.size + 1) s.heap.objs.size 0 .none → h'.IsTupleIter s.heap.objs.size l 0 → h'.objs.size = s.heap.objs.size + 2 →
      (∀ b o, s.heap.get? b = some o → h'.get? b = some o) → Q (.ref (s.heap.objs.size + 1)) { s with heap := h' }) :
    wpAny (model prog w) A (call (.type "enumerate") [.ref l]) Q E s := by
  obtain ⟨⟨c, dct, dt, sl⟩, hl, hc, n, hd⟩ := hL
  replace hc : c = .type "tuple" := hc
  replace hd : dt = .seq items n := hd
  subst hc hd
  refine callType_new F.called_enumerate (by decide) (F.typeCall_enumerate_1 _) (F.newCall_enumerate_1 _) (fun obj => F.args_object_init_2 obj _) F.entry_enumerate_new
    (en_new l items n dct sl) ⟨hl, ?_⟩
  have hz : (s.heap.push { cls := .type "tuple_iterator", data := .fields #[.ref l, .int 0 0] }).objs.size = s.heap.objs.size + 1 := Heap.size_push ..
  show _ ∧ _
  rw [hz]
  have he : IsEnum ((s.heap.push { cls := .type "tuple_iterator", data := .fields #[.ref l, .int 0 0] }).push
      { cls := .type "enumerate", data := .fields #[.none, .bool false, .ref s.heap.objs.size, rawInt 0, .none, .none] }) (s.heap.objs.size + 1) s.heap.objs.size 0 .none := by
    have := Heap.get?_push_size (s.heap.push { cls := .type "tuple_iterator", data := .fields #[.ref l, .int 0 0] })
      (o := { cls := .type "enumerate", data := .fields #[.none, .bool false, .ref s.heap.objs.size, rawInt 0, .none, .none] }) rfl
    rw [hz] at this
    exact this
  exact ⟨⟨_, he, rfl⟩, h _ he ⟨_, Heap.get?_push_of_some _ (Heap.get?_push_size _ rfl), rfl, rfl⟩ (by rw [Heap.size_push, hz]) fun b o x => Heap.get?_push_of_some _ (Heap.get?_push_of_some _ x)⟩
end
/-- a tuple's items in new pairs -/
def Itn (a : Addr) (xs : List V) : It :=
  ⟨fun i H => i < xs.length ∧ Tup H a xs, fun i H v H' => ∃ T x, v = .ref T ∧ H T = none ∧ H' = upd H T (.tup [.int (i : Nat), x]) ∧ xs[i]? = some x, fun i H => i = xs.length ∧ Tup H a xs⟩
theorem turn_en {P : Program} {w : World} {K : PySem.W.Frag} {elts : List Expr} {kk : Nat} {tpos : Pos} (a e it : Addr) (xs : List V) :
    Turn P w K (.Tuple elts kk tpos) (Itn a xs) [e, it] e (fun i h => (∃ old, IsEnum h e it ((i : Nat) : Int) old) ∧ h.IsTupleIter it a i ∧ e ≠ it ∧ a ≠ it ∧ a ≠ e) where
  mem := by simp
  obj := fun i h st b hb => by
    obtain ⟨⟨old, he⟩, ⟨o, ho, hc, hd⟩, _⟩ := st
    have e' : b = e ∨ b = it := by simpa using hb
    rcases e' with z | z
    · rw [z]; exact ⟨_, he, fun v q => nomatch q⟩
    · rw [z]; exact ⟨o, ho, fun v q => by rw [hd] at q; cases q⟩
  keep := fun i h h' st k => let ⟨⟨old, he⟩, hi, hne⟩ := st; ⟨⟨old, k e (by simp) _ he⟩, hi.at fun o q => k it (by simp) o q, hne⟩
  item := by
    intro X hP hw hK hc i pins s σ H E I hf st hg
    subst hP hw hK
    obtain ⟨⟨old, he⟩, hit, hne, hai, hae⟩ := st
    obtain ⟨hin, tu⟩ := hg
    obtain ⟨its, rv, p, hz⟩ := I.tuple (tu.sq (K := X.K))
    have hl := rv.length
    have hel : e < s.heap.objs.size := Heap.lt_size he
    have hil : it < s.heap.objs.size := by obtain ⟨_, q, _⟩ := hit; exact Heap.lt_size q
    have D := Draws.tuple (prog := X.prog) (w := X.w) (A := X.A.in1) (I.ok.hd hc) it a hai its.toArray
    have hta : s.heap.IsTuple a its.toArray := p
    refine wpAny_pyNext_enum_itemD D he ⟨hit, hta⟩ (by simp; omega) hne (by simp [hne, Ne.symm hae]) fun x h' tk hP ho hs' hT hsz hk => ?_
    obtain ⟨hit', _⟩ := hs'
    refine ⟨_, rfl, wpAny_letOwnedTupleGo_enum (s := { s with heap := h', toks := tk + 1 }) ho fun h'' he' sb => ?_⟩
    have hT2 : h''.get? s.heap.objs.size = some { cls := .type "tuple", data := .seq #[.int i tk, x] } := (sb.2 _ (Nat.ne_of_gt hel)).trans hT
    have hxi : its[i]? = some x := by simpa using hP
    obtain ⟨u, hu, ru⟩ : ∃ u, xs[i]? = some u ∧ RelV u x := by
      obtain ⟨x', h1, h2⟩ := rv.get (List.getElem?_eq_getElem hin)
      rw [hxi] at h1
      cases h1
      exact ⟨_, List.getElem?_eq_getElem hin, h2⟩
    have new : ObjOk X.prog X.w (upd H s.heap.objs.size (.tup [.int (i : Nat), u])) h'' s.heap.objs.size (.tup [.int (i : Nat), u]) :=
      ⟨by show 2 ≤ sizeLine; decide, [.int i tk, x], .cons ⟨_, rfl⟩ (.cons ru .nil), ⟨_, hT2, rfl, _, rfl⟩⟩
    have I1 : Inv X pins σ (upd H s.heap.objs.size (.tup [.int (i : Nat), u])) { s with heap := h'', toks := tk + 1 } :=
      I.turnedNew (ch := [e, it]) (fun b ob hb q => (sb.2 b (fun z => hb (by simp [z]))).trans (hk b ob (fun z => hb (by simp [z])) (fun z => hb (by simp [z])) q)) hf (Nat.le_refl _) new
    refine ⟨.ref s.heap.objs.size, _, I1, rfl, ⟨_, u, rfl, I.hok.fresh (Nat.le_refl _), rfl, hu⟩, ⟨⟨x, ?_⟩, hit'.at fun o q => (sb.2 it (Ne.symm hne)).trans q, hne, hai, hae⟩, fun b hb => ?_⟩
    · have e1 : ((i + 1 : Nat) : Int) = (i : Int) + 1 := by omega
      rw [e1]
      exact he'
    · have hb' : b < s.heap.objs.size := by
        have e' : b = e ∨ b = it := by simpa using hb
        rcases e' with z | z
        · rw [z]; exact hel
        · rw [z]; exact hil
      rw [upd_ne (Nat.ne_of_lt hb')]
      exact (hf b hb).1
  done := by
    intro X hP hw hK hc i pins s σ H E I hf st hg
    subst hP hw hK
    obtain ⟨⟨old, he⟩, hit, hne, hai, hae⟩ := st
    obtain ⟨hin, tu⟩ := hg
    obtain ⟨its, rv, p, hz⟩ := I.tuple (tu.sq (K := X.K))
    have hl := rv.length
    have hta : s.heap.IsTuple a its.toArray := p
    obtain ⟨f0, f1, f2, f3, f4, f5⟩ := hf it (by simp)
    have D := Draws.tuple (prog := X.prog) (w := X.w) (A := X.A.in1) (I.ok.hd hc) it a hai its.toArray
    have hn : its.toArray.size = i := by simp; omega
    exact wpAny_pyNext_enum_endD D he (by rw [hn]; exact ⟨hit, hta⟩) fun h' eb => ⟨rfl, I.turned (t' := s.toks) (fun b o hb q => eb b o hb q) f0 f1 f3 f4 f5⟩
  self := fun A i s Q E st h => let ⟨⟨_, he⟩, _⟩ := st; wpAny_pyIter_enum he h
def iEnumU (K : PySem.W.Frag) (ta : TA) : TI := fun σ H R => ta σ H fun vs H1 => ∃ a xs, vs = [.ref a] ∧ Tup H1 a xs ∧ R (Itn a xs) H1
theorem pi_enumU {X : Cx} {e : Expr} {ta : TA} {p pos tpos : Pos} {elts : List Expr} {kk : Nat} (hg : Gl X "enumerate") (hm : X.mg "enumerate" = none) (ha : PA X [e] ta) (hs : starEach [e] X.env = [(false, eval e X.env)] := by rfl) :
    PI X (.Tuple elts kk tpos) (.Call (.Name "enumerate" p) [e] [] pos) (iEnumU X.K ta) := by
  refine ⟨fun pins s σ H R I h => ?_⟩
  refine Call_ (ld_blt I hg hm boot_enumerate (PyProof.Rows.callWith_type1 (thn (ha.run pos pins s σ H _ I h) fun us s1 ⟨vs, H1, I1, r1, q1⟩ => ?_) hs rfl))
  obtain ⟨a, xs, ex, tu, q⟩ := q1
  subst ex
  cases r1 with
  | cons r rr =>
    cases rr
    cases r
    obtain ⟨its, rv, p', hz⟩ := I1.tuple (tu.sq (K := X.K))
    have hta : s1.heap.IsTuple a its.toArray := p'
    have hal : a < s1.heap.objs.size := by obtain ⟨_, q, _⟩ := hta; exact Heap.lt_size q
    refine call_en hta fun h' he hit hsz hk => wpAny_pyIter_enum he ?_
    have I2 : Inv X pins σ H1 { s1 with heap := h' } := I1.kept (t' := s1.toks) hk
    refine ⟨s1.heap.objs.size + 1, [s1.heap.objs.size + 1, s1.heap.objs.size], _, _, H1, rfl, I2, turn_en a (s1.heap.objs.size + 1) s1.heap.objs.size xs, ⟨⟨.none, he⟩, hit, Nat.succ_ne_self _, Nat.ne_of_lt hal, Nat.ne_of_lt (Nat.lt_succ_of_lt hal)⟩, fun b hb => ?_, q⟩
    have e' : b = s1.heap.objs.size + 1 ∨ b = s1.heap.objs.size := by simpa using hb
    have hle : s1.heap.objs.size ≤ b := by
      rcases e' with z | z
      · rw [z]; exact Nat.le_add_right _ _
      · rw [z]; exact Nat.le_refl _
    exact I1.fpOk hle (I1.hok.fresh hle)
/-- a for over enumerate(tuple), behind its argument -/
def FE (g : TG) (tb : TS) (D : Ends) (σ : L2.St) (vs : List V) (H1 : Hp) : Prop := ∃ a xs, vs = [.ref a] ∧ Tup H1 a xs ∧ ∃ W : Nat → Nat → L2.St → Hp → Prop, (∃ m, W 0 m σ H1) ∧ ∀ i m σ H, W i m σ H →
  ((Itn a xs).stop i H ∧ D.nx σ H) ∨ ((Itn a xs).go i H ∧ ∃ N : L2.St → Hp → Prop, (∀ σ' H', N σ' H' → ∃ m', m' < m ∧ W (i + 1) m' σ' H') ∧ ∀ x H', (Itn a xs).yld i H x H' → g x σ H' fun σ2 H2 => tb { D with nx := N, ct := N, bk := D.nx } σ2 H2)
theorem e_forE {K : PySem.W.Frag} {ta : TA} {g : TG} {tb : TS} {D : Ends} {σ : L2.St} {H : Hp} : tFor (iEnumU K ta) g tb D σ H ↔ ta σ H (FE g tb D σ) := Iff.rfl
theorem g_FE {g : TG} {tb : TS} {D : Ends} {σ : L2.St} {H1 : Hp} {a : Addr} {xs : List V} (Pv : Nat → L2.St → Hp → Prop) (h : Tup H1 a xs) (h0 : Pv 0 σ H1) (hl : ∀ i σ H, i ≤ xs.length → Pv i σ H → Tup H a xs)
    (hs : ∀ i x σ H T H', xs[i]? = some x → Pv i σ H → H T = none → Keep [] H H' → H' T = some (.tup [.int (i : Nat), x]) → g (.ref T) σ H' fun σ2 H2 => tb { D with nx := Pv (i + 1), ct := Pv (i + 1), bk := D.nx } σ2 H2) (hd : ∀ σ H, Pv xs.length σ H → D.nx σ H) : FE g tb D σ [.ref a] H1 := by
  refine ⟨a, xs, rfl, h, fun i m σ H => m = xs.length - i ∧ i ≤ xs.length ∧ Pv i σ H, ⟨xs.length, by simp, Nat.zero_le _, h0⟩, ?_⟩
  rintro i m σ H ⟨rfl, hi, p⟩
  have tu := hl i σ H hi p
  by_cases hlt : i < xs.length
  · refine .inr ⟨⟨hlt, tu⟩, Pv (i + 1), fun σ' H' p' => ⟨xs.length - (i + 1), by omega, rfl, hlt, p'⟩, fun x H' y => ?_⟩
    obtain ⟨T, u, rfl, nT, rfl, hu⟩ := y
    exact hs i u σ H T _ hu p nT (Keep.new nT) upd_same
  · have e : i = xs.length := by omega
    subst e
    exact .inl ⟨⟨rfl, tu⟩, hd σ H p⟩
theorem g_pair {K : PySem.W.Frag} {p : Addr} {xs : List V} {n : Nat} {t : TGs} {σ : L2.St} {H : Hp} {Q : L2.St → Hp → Prop} (h : H p = some (.tup xs)) (l : xs.length = n) (q : t xs σ H Q) : gTup K n t (.ref p) σ H Q := ⟨p, xs, rfl, .inl (.inl h), l, q⟩
/-- l[::-1] -/
theorem g_revl {K : PySem.W.Frag} {p : Addr} {ys : List V} {H : Hp} {Q : VK} (h : SqL K H p ys) (q : ∀ l H', H l = none → Keep [] H H' → H' l = some (.lst ys.reverse) → Q (.ref l) H') : ∃ a xs, V.ref p = .ref a ∧ SqL K H a xs ∧ ∀ l, H l = none → Q (.ref l) (upd H l (.lst xs.reverse)) :=
  ⟨p, ys, rfl, h, fun l n => q l _ n (Keep.new n) upd_same⟩
/-- min(list of numbers) -/
theorem g_min {K : PySem.W.Frag} {a : Addr} {ns : List Int} {H : Hp} {Q : VK} (h : H a = some (.lst (ns.map V.int))) (l : 0 < ns.length) (q : ∀ m, m ∈ ns → (∀ y, y ∈ ns → m ≤ y) → Q (.int m) H) : rMin K [.ref a] H Q := ⟨a, ns, rfl, lst_sq h, l, q⟩
end Wg

/-! Wagon, part 12: pop, reverse, extend, zip of two tuples in a comprehension. -/
namespace Wg
open PySem PySem.Spec PyProof.Rows L2 RZ
section
variable {X : Cx}
def uPopAt : V → List V → Hp → VK → Prop := fun x vs H Q => ∃ l xs i k y, x = .ref l ∧ vs = [.int i] ∧ H l = some (.lst xs) ∧ -(2 ^ 63) ≤ i ∧ i < 2 ^ 63 ∧ seqIndex? i xs.length = some k ∧ xs[k]? = some y ∧ Ch H l (.lst (xs.eraseIdx k)) (Q y)
theorem mt_uPopAt : MtM X "list.pop" uPopAt := by
  intro pins s σ H x vs v us Q I rx rv h
  obtain ⟨l, xs, i, k, y, e1, e2, e3, e4, e5, e6, e7, q⟩ := h
  exact mt_popAt pins s σ H x vs v us Q I rx rv ⟨l, xs, i, k, y, e1, e2, e3, e4, e5, e6, e7, q.at⟩
def uReverse : V → List V → Hp → VK → Prop := fun x vs H Q => ∃ l xs, x = .ref l ∧ vs = [] ∧ H l = some (.lst xs) ∧ Ch H l (.lst xs.reverse) (Q .non)
theorem mt_uReverse : MtM X "list.reverse" uReverse := by
  intro pins s σ H x vs v us Q I rx rv h
  obtain ⟨l, xs, e1, e2, e3, q⟩ := h
  exact mt_reverse pins s σ H x vs v us Q I rx rv ⟨l, xs, e1, e2, e3, q.at⟩
def uExtend : V → List V → Hp → VK → Prop := fun x vs H Q => ∃ l b xs zs, x = .ref l ∧ vs = [.ref b] ∧ H l = some (.lst xs) ∧ H b = some (.lst zs) ∧ xs.length + zs.length ≤ sizeLine ∧ Ch H l (.lst (xs ++ zs)) (Q .non)
theorem mt_uExtend : MtM X "list.extend" uExtend := by
  intro pins s σ H x vs v us Q I rx rv h
  obtain ⟨l, b, xs, zs, e1, e2, e3, e4, e5, q⟩ := h
  exact mt_extend pins s σ H x vs v us Q I rx rv ⟨l, b, xs, zs, e1, e2, e3, e4, e5, q.at⟩
end
theorem g_popAt {l : Addr} {xs : List V} {i : Int} {k : Nat} {y : V} {H : Hp} {Q : VK} (h : H l = some (.lst xs)) (e : i = (k : Int)) (hk : k < xs.length) (hb : xs.length ≤ 1000) (hy : xs[k]? = some y) (q : ∀ H', Keep [l] H H' → H' l = some (.lst (xs.eraseIdx k)) → Q y H') : uPopAt (.ref l) [.int i] H Q := by
  refine ⟨l, xs, i, k, y, rfl, rfl, h, by omega, by omega, ?_, hy, q⟩
  subst e
  unfold seqIndex?
  have h0 : ¬ ((k : Int) < 0) := by omega
  simp only [h0, if_false]
  rw [if_pos (by simp; omega), Int.toNat_natCast]
theorem g_reverse {l : Addr} {xs : List V} {H : Hp} {Q : VK} (h : H l = some (.lst xs)) (q : ∀ H', Keep [l] H H' → H' l = some (.lst xs.reverse) → Q .non H') : uReverse (.ref l) [] H Q := ⟨l, xs, rfl, rfl, h, q⟩
/-- a comprehension over zip of two tuples, behind its arguments -/
def CZ (K : PySem.W.Frag) (g : TG) (tt : TT) (te : TE) (vs : List Nat) (σ : L2.St) (Q : VK) (xs : List V) (H1 : Hp) : Prop := ∃ a b us ws, xs = [.ref a, .ref b] ∧ ((SqL K H1 a us ∧ SqL K H1 b ws ∧ CB (Itz K a b) g tt te vs σ Q H1) ∨ (SqT K H1 a us ∧ SqT K H1 b ws ∧ CB (ItzT K a b) g tt te vs σ Q H1))
theorem e_lcZ {K : PySem.W.Frag} {ta : TA} {g : TG} {tt : TT} {te : TE} {vs : List Nat} {σ : L2.St} {H : Hp} {Q : VK} : tLc (iZipA K ta) g tt te vs σ H Q ↔ ta σ H (CZ K g tt te vs σ Q) := Iff.rfl
theorem g_CZ {K : PySem.W.Frag} {g : TG} {tt : TT} {te : TE} {vs : List Nat} {σ : L2.St} {Q : VK} {H1 : Hp} {a b : Addr} {us ws : List V} (ha : Tup H1 a us) (hb : Tup H1 b ws) (hl : us.length = ws.length) (P : Nat → Hp → List V → Prop)
    (p0 : ∀ D H2, H1 D = none → Keep [] H1 H2 → P 0 H2 [])
    (ps : ∀ D i x y H acc (R : VK) (R0 : Hp → Prop) T H', H1 D = none → us[i]? = some x → ws[i]? = some y → Keep [] H1 H' → H' D = some (.lst acc) → Keep [] H H' → P i H acc → H' T = some (.tup [x, y]) →
      (∀ z H4, Keep [] H' H4 → acc.length < sizeLine → (∀ H5, Keep [D] H4 H5 → P (i + 1) H5 (acc ++ [z])) → R z H4) → (∀ H3, Keep [] H' H3 → P (i + 1) H3 acc → R0 H3) →
      g (.ref T) (wipe σ vs) H' fun σ2 H2 => wipe σ2 vs = wipe σ vs ∧ tt σ2 H2 fun bb H3 => if bb = true then te σ2 H3 R else R0 H3)
    (pd : ∀ D H acc, H1 D = none → Keep [] H1 H → H D = some (.lst acc) → P us.length H acc → Q (.ref D) H) : CZ K g tt te vs σ Q [.ref a, .ref b] H1 := by
  refine ⟨a, b, us, ws, rfl, .inr ⟨ha.sq, hb.sq, fun D hD => ?_⟩⟩
  refine ⟨fun i m H => m = us.length - i ∧ i ≤ us.length ∧ Keep [] H1 H ∧ ∃ acc, H D = some (.lst acc) ∧ P i H acc, ⟨us.length, by omega, by omega, Keep.new hD, [], upd_same, p0 D _ hD (Keep.new hD)⟩, ?_⟩
  rintro i m H ⟨rfl, hi, k, acc, eD, p⟩
  have ta := (ha.keep k nin0).sq (K := K)
  have tb := (hb.keep k nin0).sq (K := K)
  by_cases hlt : i < us.length
  · have hx := List.getElem?_eq_getElem hlt
    have hy := List.getElem?_eq_getElem (show i < ws.length by omega)
    refine .inr ⟨⟨us, ws, _, _, ta, tb, hx, hy⟩, fun H' => i + 1 ≤ us.length ∧ Keep [] H1 H' ∧ ∃ acc, H' D = some (.lst acc) ∧ P (i + 1) H' acc, fun H' q => ⟨us.length - (i + 1), by omega, rfl, q⟩, fun v H' y => ?_⟩
    obtain ⟨T, x', y', rfl, hT, rfl, f1, f2⟩ := y
    have kn : Keep [] H (upd H T (.tup [x', y'])) := Keep.new hT
    refine ps D i x' y' H acc _ _ T _ hD (f1 us ta) (f2 ws tb) (k.trans kn) (kn _ _ nin0 eD) kn p upd_same (fun z H4 k4 hz q => ⟨acc, k4 _ _ nin0 (kn _ _ nin0 eD), hz, hlt, (k.trans (kn.trans k4)).past Keep.set hD, _, upd_same, q _ Keep.set⟩) fun H3 k3 q => ⟨hlt, k.trans (kn.trans k3), acc, k3 _ _ nin0 (kn _ _ nin0 eD), q⟩
  · have e : i = us.length := by omega
    subst e
    exact .inl ⟨⟨us, ws, ta, tb, .inl (Nat.le_refl _)⟩, pd D H acc hD k eD p⟩
/-! d[k], d[k] = v by values -/
def uDG (x y : V) (H : Hp) (Q : VK) : Prop := ∃ a v, x = .ref a ∧ DGet H a y (some v) ∧ Q v H
theorem e_dget {td ty : TE} {σ : L2.St} {H : Hp} {Q : VK} : tDGet td ty σ H Q ↔ td σ H fun x H1 => ty σ H1 fun y H2 => uDG x y H2 Q := Iff.rfl
def uDP (x y v : V) (H : Hp) (R : Hp → Prop) : Prop := ∃ a H4, x = .ref a ∧ DPut H a y v H4 ∧ R H4
theorem e_dput {td ty tv : TE} {D : Ends} {σ : L2.St} {H : Hp} : sDPut td ty tv D σ H ↔ tv σ H fun v H1 => td σ H1 fun x H2 => ty σ H2 fun y H3 => uDP x y v H3 (D.nx σ) := Iff.rfl
end Wg

/-! Wagon, part 13: sorted of alike data. -/
namespace Wg
open PySem PySem.Spec PyProof.Rows L2
theorem each_vals {α : Type} {RR : V → α → Prop} : ∀ {xs : List V} {us : List Value} {rs : List α}, Vals xs us → PySem.W.EachIs RR xs rs → PySem.W.EachIs (fun u r => ∃ x, RelV x u ∧ RR x r) us rs
  | _, _, _, .nil, .nil => .nil
  | _, _, _, .cons r q, .cons h t => .cons ⟨_, r, h⟩ (each_vals q t)
theorem vals_each {α : Type} {RR : V → α → Prop} : ∀ {us : List Value} {rs : List α}, PySem.W.EachIs (fun u r => ∃ x, RelV x u ∧ RR x r) us rs → ∃ xs, Vals xs us ∧ PySem.W.EachIs RR xs rs
  | _, _, .nil => ⟨[], .nil, .nil⟩
  | _, _, .cons ⟨x, h1, h2⟩ t => let ⟨xs, a, b⟩ := vals_each t; ⟨x :: xs, .cons h1 a, .cons h2 b⟩
/-- sorted(list of alike data): RR tells what the items are -/
def uSorted (K : PySem.W.Frag) : List V → Hp → VK → Prop := fun vs H Q => ∃ (α : Type) (RR : V → α → Prop) (enc : α → PyData) (a : Addr) (xs : List V) (rs : List α), vs = [.ref a] ∧ SqL K H a xs ∧ PySem.W.EachIs RR xs rs ∧
  (∀ x r, RR x r → Dp K H x (enc r)) ∧ PySem.W.AllAlike (rs.map enc) ∧ PySem.W.Sortable (rs.map enc) ∧ (∀ r ∈ rs, (enc r).depth ≤ 50) ∧
  ∀ ys, ys.length = xs.length → PySem.W.EachIs RR ys (rs.mergeSort (PySem.W.dataLe false enc)) → Mk H (.lst ys) Q
theorem call_uSorted {X : Cx} (hu : X.A.units + 64 < cLine) : CallR X (.builtin "sorted") (uSorted X.K) := by
  intro pins s σ H vs us Q I r h
  obtain ⟨α, RR, enc, a, xs, rs, rfl, hs, he, hd, ha, hk, hdp, q⟩ := h
  obtain ⟨its, rv, hl, hz⟩ := I.list hs
  obtain ⟨u, rfl, ru⟩ := vals1 r
  obtain rfl : u = Value.ref a := ru
  have er := each_vals rv he
  refine PySem.W.sorted_data (R := fun u r => ∃ x, RelV x u ∧ RR x r) hl.isList er (er.mono fun u r ⟨x, h1, h2⟩ => Dp.reads I _ _ _ (hd x r h2) h1) ha hk (by rw [← he.length]; exact hz) (fun b hb => by have := hdp b hb; omega) fun out ho eo => ?_
  obtain ⟨ys, v1, e1⟩ := vals_each eo
  obtain ⟨n, hn⟩ := sortedAll_at s.heap its (List.toArray out)
  have hly : ys.length = xs.length := by rw [v1.length, ho, he.length]
  refine ⟨.ref (s.heap.objs.size + 1), upd H (s.heap.objs.size + 1) (.lst ys), I.laid (t' := s.toks) (fun b o e => sortedAll_old e) (Nat.le_succ _) ⟨by rw [hly]; exact hz, out, n, v1, hn⟩, rfl, ?_⟩
  have nf := I.hok.fresh (Nat.le_succ s.heap.objs.size)
  exact q ys hly e1 _ _ nf (Keep.new nf) upd_same
end Wg

/-! Wagon, part 14: dict(pairs), list.clear. -/
namespace Wg
open PySem PySem.Spec PyProof.Rows L2
def uDictP (K : PySem.W.Frag) : List V → Hp → VK → Prop := fun xs H Q => ∃ (a : Addr) (ps : List Addr) (kvs : List (Key × V)), xs = [.ref a] ∧ SqL K H a (ps.map V.ref) ∧ Paired (fun p kv => SqT K H p [kV kv.1, kv.2]) ps kvs ∧ Mk H (.dK (mergeK [] kvs)) Q
theorem call_uDictP {X : Cx} (hc : X.calm = true) : CallR X (.type "dict") (uDictP X.K) := by
  intro pins s σ H xs us Q I r h
  obtain ⟨a, ps, kvs, e1, e2, e3, q⟩ := h
  exact call_dictP hc pins s σ H xs us Q I r ⟨a, ps, kvs, e1, e2, e3, fun p n => q.at p n⟩
def uClear : V → List V → Hp → VK → Prop := fun x vs H Q => ∃ l xs, x = .ref l ∧ vs = [] ∧ H l = some (.lst xs) ∧ Ch H l (.lst []) (Q .non)
theorem mt_uClear {X : Cx} : MtM X "list.clear" uClear := by
  intro pins s σ H x vs v us Q I rx rv h
  obtain ⟨l, xs, e1, e2, e3, q⟩ := h
  exact mt_clear pins s σ H x vs v us Q I rx rv ⟨l, xs, e1, e2, e3, q.at⟩
theorem g_clear {l : Addr} {xs : List V} {H : Hp} {Q : VK} (h : H l = some (.lst xs)) (q : ∀ H', Keep [l] H H' → H' l = some (.lst []) → Q .non H') : uClear (.ref l) [] H Q := ⟨l, xs, rfl, rfl, h, q⟩
theorem merge_nodup : ∀ (more acc : List (Key × V)), ((acc ++ more).map (·.1)).Nodup → mergeK acc more = acc ++ more
  | [], acc, _ => (List.append_nil acc).symm
  | (k, v) :: more, acc, h => by
    have e : acc ++ (k, v) :: more = (acc ++ [(k, v)]) ++ more := by simp
    have hk : (acc.any fun kv => decide (kv.1 = k)) = false := by
      rw [List.any_eq_false]
      intro x hx hq
      rw [List.map_append, List.nodup_append] at h
      exact h.2.2 x.1 (List.mem_map.mpr ⟨x, hx, rfl⟩) k (by simp) (of_decide_eq_true hq)
    have hp : putK acc k v = acc ++ [(k, v)] := by
      unfold putK
      rw [hk]
      rfl
    show mergeK (putK acc k v) more = _
    rw [hp, e]
    exact merge_nodup more _ (by rw [← e]; exact h)
end Wg
namespace Wg
open PySem PySem.Spec PyProof.Rows L2
def tTupRgM (te : L2.St → Hp → (Int → Int → Hp → Prop) → Prop) : TE := fun σ H Q => te σ H fun a b H1 => RgOk a b ∧ Mt H1 (rgV a b) Q
theorem pe_tupRgM {X : Cx} {e : Expr} {te : L2.St → Hp → (Int → Int → Hp → Prop) → Prop} {p pos : Pos} (hc : X.calm = true) (hg : Gl X "tuple") (hm : X.mg "tuple" = none) (he : PRg X e te) (na : starEach [e] X.env = (false, eval e X.env) :: starEach [] X.env := by rfl) : PE X (.Call (.Name "tuple" p) [e] [] pos) (tTupRgM te) := by
  refine ⟨fun pins s σ H Q I h => ?_⟩
  refine Call_ (ld_blt I hg hm boot_tuple (PyProof.Rows.callWith_type1 (args_cons (thn (he pins s σ H _ I h) fun x s1 ⟨r, a, b, t, u, v, H1, ex, hr, I1, ok, q⟩ => args_nil ?_) na) na))
  subst ex
  obtain ⟨b1, b2, b3, b4, b5⟩ := ok
  refine call_tuple_range (n := (b - a).toNat) (I1.ok.hd hc) hr (small_one b1 b2 b3 b4) (rangeSize_nat a b) b5 fun h' tk acc hk hi => ?_
  have I2 : Inv X pins σ H1 { s1 with heap := h', toks := tk } := I1.kept hk
  have := mt_end (t' := tk) I2 (vals_rg hi) (by rw [rgV_length, sizeLine_eq]; omega) q
  simpa using this
theorem rgV_ints (n : Nat) : rgV 0 (n : Int) = ((List.range n).map fun i => ((i : Nat) : Int)).map V.int := by
  unfold rgV
  rw [List.map_map]
  simp [Function.comp_def]
end Wg

/-! Wagon, part 15: < and min of alike data. -/
namespace Wg
open PySem PySem.Spec PyProof.Rows L2
def uLtD (K : PySem.W.Frag) : R2 := fun x y H Q => ∃ d e, Dp K H x d ∧ Dp K H y e ∧ PySem.W.alike d e = true ∧ d ≠ .none ∧ d.depth ≤ 50 ∧ Q (.bl (PySem.W.dataLt d e)) H
theorem op_uLtD {X : Cx} (hu : X.A.units + 64 < cLine) : OpR X (compareOp .Lt) (uLtD X.K) := by
  intro pins s σ H x y v u Q I rx ry h
  obtain ⟨d, e, h1, h2, h3, h4, h5, q⟩ := h
  obtain ⟨as, r1⟩ := Dp.reads I _ _ _ h1 rx
  obtain ⟨bs, r2⟩ := Dp.reads I _ _ _ h2 ry
  have := Nat.min_le_left d.depth e.depth
  exact PySem.W.lt_data r1 r2 h3 h4 (by omega) ⟨.bl _, H, I, rfl, q⟩
def uMinD (K : PySem.W.Frag) : List V → Hp → VK → Prop := fun vs H Q => ∃ (α : Type) (RR : V → α → Prop) (enc : α → PyData) (a : Addr) (xs : List V) (r : α) (rs : List α), vs = [.ref a] ∧ SqL K H a xs ∧ PySem.W.EachIs RR xs (r :: rs) ∧
  (∀ x r, RR x r → Dp K H x (enc r)) ∧ PySem.W.AlikeAll ((r :: rs).map enc) ∧ PyData.depthAll ((r :: rs).map enc) ≤ 50 ∧ ∀ x m, RR x m → enc m = PySem.W.minD (enc r) (rs.map enc) → Q x H
theorem each_reads {X : Cx} {pins : List (Addr × Obj)} {σ : L2.St} {H : Hp} {s : Shared} (I : Inv X pins σ H s) {α : Type} {RR : V → α → Prop} {enc : α → PyData} (hd : ∀ x r, RR x r → Dp X.K H x (enc r)) : ∀ {xs : List V} {us : List Value} {rs : List α}, Vals xs us → PySem.W.EachIs RR xs rs → ∃ as, ReadsAll s.heap us (rs.map enc) as
  | _, _, _, .nil, .nil => ⟨[], .nil⟩
  | _, _, _, .cons r q, .cons h t => by
    obtain ⟨as, h1⟩ := Dp.reads I _ _ _ (hd _ _ h) r
    obtain ⟨bs, h2⟩ := each_reads I hd q t
    exact ⟨as ++ bs, .cons h1 h2⟩
theorem call_uMinD {X : Cx} (hc : X.calm = true) (hu : X.A.units + 64 < cLine) : CallR X (.builtin "min") (uMinD X.K) := by
  intro pins s σ H vs us Q I r h
  obtain ⟨α, RR, enc, a, xs, r0, rs, rfl, hs, he, hd, ha, hdp, q⟩ := h
  obtain ⟨its, rv, hl, hz⟩ := I.list hs
  obtain ⟨u, rfl, ru⟩ := vals1 r
  obtain rfl : u = Value.ref a := ru
  obtain ⟨as, hr⟩ := each_reads I hd rv he
  refine PySem.W.min_list_data (I.ok.hd hc) hl.isList (x := enc r0) (xs := rs.map enc) (as := as) hr ha (by have e : PyData.depthAll (enc r0 :: rs.map enc) = PyData.depthAll ((r0 :: rs).map enc) := rfl; omega) fun i v h' tk bs hv rd hk => ?_
  have hv' : its[i]? = some v := by simpa using hv
  obtain ⟨b, hb, x, hx, hR⟩ := (each_vals rv he).left v (List.mem_of_getElem? hv')
  refine ⟨x, H, I.kept hk, hx, q x b hR ?_⟩
  obtain ⟨cs, r2⟩ := Dp.reads I _ _ _ (hd _ _ hR) hx
  exact (reads_det (fun b o e _ => hk b o e) r2 rd).1.symm
theorem minD_map {α : Type} (enc : α → PyData) (r : α) (rs : List α) : PySem.W.minD (enc r) (rs.map enc) = enc (rs.foldl (fun a y => if PySem.W.dataLt (enc y) (enc a) then y else a) r) := by
  unfold PySem.W.minD
  induction rs generalizing r with
  | nil => rfl
  | cons b rs ih =>
    rw [List.map_cons, List.foldl_cons, List.foldl_cons, ← ih]
    congr 1
    split <;> rfl
end Wg
namespace Wg
open PySem PySem.Spec PyProof.Rows L2
/-- a for over enumerate(list), behind its argument -/
def FEl (K : PySem.W.Frag) (g : TG) (tb : TS) (D : Ends) (σ : L2.St) (vs : List V) (H1 : Hp) : Prop := ∃ a xs, vs = [.ref a] ∧ SqL K H1 a xs ∧ ∃ W : Nat → Nat → L2.St → Hp → Prop, (∃ m, W 0 m σ H1) ∧ ∀ i m σ H, W i m σ H →
  ((Ite K a).stop i H ∧ D.nx σ H) ∨ ((Ite K a).go i H ∧ ∃ N : L2.St → Hp → Prop, (∀ σ' H', N σ' H' → ∃ m', m' < m ∧ W (i + 1) m' σ' H') ∧ ∀ x H', (Ite K a).yld i H x H' → g x σ H' fun σ2 H2 => tb { D with nx := N, ct := N, bk := D.nx } σ2 H2)
theorem e_forEl {K : PySem.W.Frag} {ta : TA} {g : TG} {tb : TS} {D : Ends} {σ : L2.St} {H : Hp} : tFor (iEnum K ta) g tb D σ H ↔ ta σ H (FEl K g tb D σ) := Iff.rfl
theorem g_FEl {K : PySem.W.Frag} {g : TG} {tb : TS} {D : Ends} {σ : L2.St} {H1 : Hp} {a : Addr} {xs : List V} (Pv : Nat → L2.St → Hp → Prop) (h : H1 a = some (.lst xs)) (h0 : Pv 0 σ H1) (hl : ∀ i σ H, i ≤ xs.length → Pv i σ H → H a = some (.lst xs))
    (hs : ∀ i x σ H T H', xs[i]? = some x → Pv i σ H → H T = none → Keep [] H H' → H' T = some (.tup [.int (i : Nat), x]) → g (.ref T) σ H' fun σ2 H2 => tb { D with nx := Pv (i + 1), ct := Pv (i + 1), bk := D.nx } σ2 H2) (hd : ∀ σ H, Pv xs.length σ H → D.nx σ H) : FEl K g tb D σ [.ref a] H1 := by
  refine ⟨a, xs, rfl, lst_sq h, fun i m σ H => m = xs.length - i ∧ i ≤ xs.length ∧ Pv i σ H, ⟨xs.length, by simp, Nat.zero_le _, h0⟩, ?_⟩
  rintro i m σ H ⟨rfl, hi, p⟩
  have tu := lst_sq (K := K) (hl i σ H hi p)
  by_cases hlt : i < xs.length
  · refine .inr ⟨⟨xs, _, tu, List.getElem?_eq_getElem hlt⟩, Pv (i + 1), fun σ' H' p' => ⟨xs.length - (i + 1), by omega, rfl, hlt, p'⟩, fun x H' y => ?_⟩
    obtain ⟨T, u, rfl, nT, rfl, hu⟩ := y
    exact hs i u σ H T _ (hu xs tu) p nT (Keep.new nT) upd_same
  · have e : i = xs.length := by omega
    subst e
    exact .inl ⟨⟨xs, tu, Nat.le_refl _⟩, hd σ H p⟩
theorem g_truL {K : PySem.W.Frag} {p : Addr} {xs : List V} {H : Hp} {k : Bool} (h : H p = some (.lst xs)) (e : k = !xs.isEmpty) : TruV K (.ref p) H k := .inl ⟨xs, lst_sq h, e⟩
end Wg

/-! Wagon, part 16: list.remove of data; whiles. -/
namespace Wg
open PySem PySem.Spec PyProof.Rows L2
def uRemD (K : PySem.W.Frag) : V → List V → Hp → VK → Prop := fun x vs H Q => ∃ (l : Addr) (xs : List V) (y : V) (d : PyData) (ds : List PyData) (j : Nat), x = .ref l ∧ vs = [y] ∧ H l = some (.lst xs) ∧ DpAll K H xs ds ∧ Dp K H y d ∧
  PyData.plainAll ds = true ∧ d.plain = true ∧ d.depth ≤ 50 ∧ PySem.SeqAt.dataPlace ds d = some j ∧ Ch H l (.lst (xs.eraseIdx j)) (Q .non)
theorem mt_uRemD {X : Cx} (hu : X.A.units + 64 < cLine) : MtM X "list.remove" (uRemD X.K) := by
  intro pins s σ H x vs v us Q I rx rv h
  obtain ⟨l, xs, y, d, ds, j, rfl, rfl, hH, hds, hd, p1, p2, hdp, hj, q⟩ := h
  cases rx
  obtain ⟨u, rfl, ru⟩ := rv.one
  obtain ⟨z, its, n, r, hl, e⟩ := I.lstM hH
  obtain ⟨as, rs⟩ := Dp.readsAll I _ _ _ hds r
  obtain ⟨bs, rd⟩ := Dp.reads I _ _ _ hd ru
  have := Nat.min_le_right (PyData.depthAll ds) d.depth
  refine PySem.SeqAt.remove_list_data (j := j) ⟨_, e, rfl, n, rfl⟩ (by simpa using rs) rd p1 p2 (by omega) hj (by rw [List.size_toArray]; omega) ?_
  refine ⟨.non, _, I.lset (its' := its.eraseIdx j) (ys := xs.eraseIdx j) (t' := s.toks) hH e ?_ (r.eraseIdx j) ?_, rfl, q.at⟩
  · show its.toArray.eraseIdxIfInBounds j = (its.eraseIdx j).toArray
    rw [List.eraseIdxIfInBounds_toArray]
  · have := List.length_eraseIdx_le xs j
    omega
end Wg

/-! Wagon, part 17: tuple + tuple wherever they stand. -/
namespace Wg
open PySem PySem.Spec PyProof.Rows L2
def uAddQ (K : PySem.W.Frag) : R2 := fun x y H Q => ∃ a b xs ys, x = .ref a ∧ y = .ref b ∧ SqT K H a xs ∧ SqT K H b ys ∧ xs ≠ [] ∧ ys ≠ [] ∧ xs.length + ys.length ≤ sizeLine ∧ Mt H (xs ++ ys) Q
theorem op_uAddQ {X : Cx} : OpR X (binaryOp .Add) (uAddQ X.K) := by
  intro pins s σ H x y v u Q I rx ry h
  obtain ⟨a, b, xs, ys, rfl, rfl, ha, hb, e1, e2, z, q⟩ := h
  cases rx
  cases ry
  obtain ⟨its, r1, p1, _⟩ := I.tuple ha
  obtain ⟨its2, r2, p2, _⟩ := I.tuple hb
  refine HT.cat_tup p1 p2 (fun c => e1 (r1.nil_iff.mp c)) (fun c => absurd (r2.nil_iff.mp c) e2) (fun c => ?_) (by rw [← r1.length, ← r2.length]; exact z)
  exact mt_end (t' := s.toks) I (r1.append r2) (by rw [List.length_append]; exact z) q
end Wg

/-! Wagon, part 18: a comprehension of two fors; list.extend by a list or tuple. -/
namespace Wg
open PySem PySem.Spec PyProof.Rows L2

def CU2 (K : PySem.W.Frag) (g : TG) (tt : TT) (wi1 : TI) (g1 : TG) (tt1 : TT) (te : TE) (vs vs1 : List Nat) (σ : L2.St) (Q : VK) (x : V) (H1 : Hp) : Prop := tLc2 (iU K (tC x)) g tt wi1 g1 tt1 te vs vs1 σ H1 Q
theorem e_lc2U {K : PySem.W.Frag} {tl : TE} {g : TG} {tt : TT} {wi1 : TI} {g1 : TG} {tt1 : TT} {te : TE} {vs vs1 : List Nat} {σ : L2.St} {H : Hp} {Q : VK} : tLc2 (iU K tl) g tt wi1 g1 tt1 te vs vs1 σ H Q ↔ tl σ H (CU2 K g tt wi1 g1 tt1 te vs vs1 σ Q) := Iff.rfl
/-- [y for z in zs for y in f(z)], of texts; f(z) a fresh list -/
theorem g_C2 {K : PySem.W.Frag} {tl1 : TE} {σ : L2.St} {H1 : Hp} {Q : VK} {a : Addr} {i j : Nat} {vs vs1 : List Nat} (zs : List Str) (f : Str → List Str) (hx : H1 a = some (.lst (zs.map V.str)) ∨ Tup H1 a (zs.map V.str))
    (hw : ∀ v, wipe ((wipe σ vs).set i v) vs = wipe σ vs) (hw1 : ∀ v u, wipe ((wipe ((wipe σ vs).set i v) vs1).set j u) vs1 = wipe ((wipe σ vs).set i v) vs1) (hw2 : ∀ v, wipe ((wipe σ vs).set i v) vs1 = (wipe σ vs).set i v)
    (hj : ∀ v u, ((wipe ((wipe σ vs).set i v) vs1).set j (some u))[j]? = some (some u))
    (hl : ∀ ws : List Str, (∀ z ∈ ws, z ∈ zs) → ws.length ≤ zs.length → (ws.flatMap f).length < 1000) (hl1 : ∀ z ∈ zs, (f z).length < 1000)
    (hc : ∀ z ∈ zs, ∀ H3 (Q1 : VK), Keep [] H1 H3 → (∀ l H4, H3 l = none → Keep [] H3 H4 → H4 l = some (.lst ((f z).map V.str)) → Q1 (.ref l) H4) → tl1 ((wipe σ vs).set i (some (.str z))) H3 Q1)
    (hd : ∀ D H, H1 D = none → Keep [] H1 H → H D = some (.lst ((zs.flatMap f).map V.str)) → Q (.ref D) H) : CU2 K (gName i) tYes (iU K tl1) (gName j) tYes (tVar j) vs vs1 σ Q (.ref a) H1 := by
  have core : ∀ J : It, (∀ n H, n < zs.length → Keep [] H1 H → J.go n H) → (∀ n H x H', n < zs.length → Keep [] H1 H → J.yld n H x H' → x = .str (zs.getD n "") ∧ H' = H) → (∀ H, Keep [] H1 H → J.stop zs.length H) →
      ∀ D, H1 D = none → ∃ W : Nat → Nat → Hp → Prop, (∃ m, W 0 m (upd H1 D (.lst []))) ∧ ∀ n m H, W n m H →
  (J.stop n H ∧ Q (.ref D) H) ∨ (J.go n H ∧ ∃ Nx : Hp → Prop, (∀ H', Nx H' → ∃ m', m' < m ∧ W (n + 1) m' H') ∧ ∀ x H', J.yld n H x H' → gName i x (wipe σ vs) H' fun σ2 H2 => wipe σ2 vs = wipe σ vs ∧ tYes σ2 H2 fun b H3 =>
    if b = true then iU K tl1 σ2 H3 fun J1 H4 => ∃ W1 : Nat → Nat → Hp → Prop, (∃ m, W1 0 m H4) ∧ ∀ jj k H, W1 jj k H →
      (J1.stop jj H ∧ Nx H) ∨ (J1.go jj H ∧ ∃ Nx1 : Hp → Prop, (∀ H', Nx1 H' → ∃ k', k' < k ∧ W1 (jj + 1) k' H') ∧ ∀ x H', J1.yld jj H x H' → gName j x (wipe σ2 vs1) H' fun σ3 H5 => wipe σ3 vs1 = wipe σ2 vs1 ∧ tYes σ3 H5 fun b H6 =>
        if b = true then tVar j σ3 H6 fun y H7 => ∃ acc, H7 D = some (.lst acc) ∧ acc.length < sizeLine ∧ Nx1 (upd H7 D (.lst (acc ++ [y]))) else Nx1 H6)
    else Nx H3) := by
    intro J hgo hy hst D hD
    refine ⟨fun n m H => m = zs.length - n ∧ n ≤ zs.length ∧ Keep [] H1 H ∧ H D = some (.lst (((zs.take n).flatMap f).map V.str)), ⟨zs.length, by omega, by omega, Keep.new hD, upd_same⟩, ?_⟩
    rintro n m H ⟨rfl, hn, k, eD⟩
    by_cases hlt : n < zs.length
    · refine .inr ⟨hgo n H hlt k, fun H' => Keep [] H1 H' ∧ H' D = some (.lst (((zs.take (n + 1)).flatMap f).map V.str)), fun H' q => ⟨zs.length - (n + 1), by omega, rfl, hlt, q⟩, fun x H' y => ?_⟩
      obtain ⟨ex, eh⟩ := hy n H x H' hlt k y
      have hz : zs[n]? = some (zs.getD n "") := by rw [List.getD_eq_getElem?_getD, List.getElem?_eq_getElem hlt]; rfl
      rw [ex, eh]
      generalize zs.getD n "" = z at hz
      have hzm := List.mem_of_getElem? hz
      have htk : (zs.take (n + 1)).flatMap f = (zs.take n).flatMap f ++ f z := by rw [List.take_succ, hz, List.flatMap_append]; simp
      refine ⟨hw _, ?_⟩
      unfold tYes
      show (if true = true then _ else _)
      rw [if_pos rfl]
      refine hc z hzm H _ k fun l H4 nl k4 e4 => .inl ⟨l, _, rfl, lst_sq e4, ?_⟩
      have nDl : D ≠ l := ne_of_none eD nl
      refine ⟨fun jj kk H' => kk = (f z).length - jj ∧ jj ≤ (f z).length ∧ Keep [D] H4 H' ∧ H' D = some (.lst (((zs.take n).flatMap f ++ (f z).take jj).map V.str)), ⟨(f z).length, by omega, by omega, Keep.refl _ _, by rw [List.take_zero, List.append_nil]; exact k4 _ _ nin0 eD⟩, ?_⟩
      rintro jj kk H5 ⟨rfl, hjj, k5, e5⟩
      have el5 := k5 _ _ (nin1 nDl.symm) e4
      by_cases hlt2 : jj < (f z).length
      · have hy2 : (f z)[jj]? = some (f z)[jj] := List.getElem?_eq_getElem hlt2
        have hym : ((f z).map V.str)[jj]? = some (.str (f z)[jj]) := by rw [List.getElem?_map, hy2]; rfl
        refine .inr ⟨⟨_, _, lst_sq el5, hym⟩, fun H' => Keep [D] H4 H' ∧ H' D = some (.lst (((zs.take n).flatMap f ++ (f z).take (jj + 1)).map V.str)), fun H' q => ⟨(f z).length - (jj + 1), by omega, rfl, hlt2, q⟩, fun x H' y => ?_⟩
        obtain ⟨e1, e2⟩ := y
        have e3 := e2 _ (lst_sq el5)
        rw [hym] at e3
        cases e3
        rw [e1]
        refine ⟨hw1 _ _, ?_⟩
        show (if true = true then _ else _)
        rw [if_pos rfl]
        refine ⟨_, hj _ _, _, e5, ?_, k5.trans Keep.set, ?_⟩
        · have h1 := hl (zs.take n) (fun w hw => List.mem_of_mem_take hw) (by rw [List.length_take]; omega)
          have h2 := hl1 z hzm
          rw [List.length_map, List.length_append, List.length_take]
          exact len_lt (by omega)
        · rw [upd_same, List.take_succ, hy2]
          simp only [List.map_append, Option.toList, List.map_cons, List.map_nil, List.append_assoc]
      · have e : jj = (f z).length := by omega
        subst e
        refine .inl ⟨⟨_, lst_sq el5, by rw [List.length_map]; exact Nat.le_refl _⟩, (k.trans k4).past k5 hD, ?_⟩
        rw [htk, e5, List.take_length]
    · have e : n = zs.length := by omega
      subst e
      rw [List.take_length] at eD
      exact .inl ⟨hst H k, hd D H hD k eD⟩
  have gt : ∀ {n : Nat}, n < zs.length → (zs.map V.str)[n]? = some (.str (zs.getD n "")) := fun h => by
    rw [List.getElem?_map, List.getD_eq_getElem?_getD, List.getElem?_eq_getElem h]; rfl
  rcases hx with hx | hx
  · refine .inl ⟨a, _, rfl, lst_sq hx, core (Itl K a) (fun n H h k => ⟨_, _, lst_sq (k _ _ nin0 hx), gt h⟩) (fun n H x H' h k y => ?_) fun H k => ⟨_, lst_sq (k _ _ nin0 hx), by rw [List.length_map]; exact Nat.le_refl _⟩⟩
    obtain ⟨e1, e2⟩ := y
    have := e2 _ (lst_sq (k _ _ nin0 hx))
    rw [gt h] at this
    cases this
    exact ⟨rfl, e1⟩
  · refine .inr (.inl ⟨a, _, rfl, hx.sq, core (Itt K a) (fun n H h k => ⟨_, _, (hx.keep k nin0).sq, gt h⟩) (fun n H x H' h k y => ?_) fun H k => ⟨_, (hx.keep k nin0).sq, by rw [List.length_map]; exact Nat.le_refl _⟩⟩)
    obtain ⟨e1, e2⟩ := y
    have := e2 _ (hx.keep k nin0).sq
    rw [gt h] at this
    cases this
    exact ⟨rfl, e1⟩
/-- a comprehension within a comprehension, that reads no name of what is around it but by cells that are there -/
theorem blkOk_any {N : List Str} {sc scope : Scope} {own : List (Str × Nat)} (h : blkC N { kind := .function, names := [], isGenerator := false, isCoroutine := false } scope own = true) : BlkOk N sc scope own := by
  have b := blkOk_by h
  exact ⟨b.kind, b.uniq, b.ix, fun y hy e => by rcases b.free y hy e with z | z <;> simp at z, b.own⟩
section
variable {X : Cx}
/-- a proper slice of a tuple wherever it stands -/
def uSlQ (K : PySem.W.Frag) : V → Option Int → Option Int → Hp → VK → Prop := fun x lo hi H Q => ∃ a xs, x = .ref a ∧ SqT K H a xs ∧ ¬ (HT.sIx xs.length 0 lo = 0 ∧ HT.sIx xs.length xs.length hi = xs.length) ∧ Mt H (cutV xs lo hi) Q
theorem sl_uQ : SlR X (uSlQ X.K) := by
  intro pins s σ H x v vl vu lo hi sl Q I rx hs pl pu h
  obtain ⟨a, xs, rfl, hx, c, q2⟩ := h
  cases rx
  obtain ⟨its, r, ht, hz⟩ := I.tuple hx
  have hlen : its.toArray.size = xs.length := by
    rw [List.size_toArray]
    exact r.length.symm
  refine ⟨"tuple", _, PyProof.Rows.slot_tuple_getitem.lookup, ht.typeIs, ?_⟩
  refine HT.getItem_tuple_cut ht hs pl pu (by rw [hlen]; exact c) ?_ (by rw [hlen]; exact hz)
  rw [hlen]
  exact mt_end (t' := s.toks) I ((r.drop (HT.sIx xs.length 0 lo)).take (HT.sIx xs.length xs.length hi - HT.sIx xs.length 0 lo)) (Nat.le_trans (cutV_length xs lo hi) hz) q2
def uExtT : V → List V → Hp → VK → Prop := fun x vs H Q => ∃ l b xs zs, x = .ref l ∧ vs = [.ref b] ∧ H l = some (.lst xs) ∧ (H b = some (.lst zs) ∨ Tup H b zs) ∧ xs.length + zs.length ≤ sizeLine ∧ Ch H l (.lst (xs ++ zs)) (Q .non)
theorem mt_uExtT : MtM X "list.extend" uExtT := by
  intro pins s σ H x vs v us Q I rx rv h
  obtain ⟨l, b, xs, zs, e1, e2, e3, e4, e5, q⟩ := h
  rcases e4 with e4 | e4
  · exact mt_extend pins s σ H x vs v us Q I rx rv ⟨l, b, xs, zs, e1, e2, e3, e4, e5, q.at⟩
  · subst e1 e2
    cases rx
    obtain ⟨u, rfl, ru⟩ := rv.one
    cases ru
    obtain ⟨z, its, n, r, hl, e⟩ := I.lstM e3
    obtain ⟨its2, n2, r2, hl2, e2⟩ := Tup.obj I e4
    have l2 := r2.length
    have hsz : its.toArray.size + its2.toArray.size ≤ sizeLine := by rw [List.size_toArray, List.size_toArray]; omega
    have hlong : ¬ (!its.toArray.isEmpty && Builtin.List.listTooLong (its.toArray.size + its2.toArray.size)) = true := by
      rw [notLongL hsz, Bool.and_false]
      exact Bool.false_ne_true
    refine call_meets F.slot_list_extend ⟨_, e, rfl⟩ F.entry_list_extend (F.args_list_extend_2 _ _)
      (AutoSeq1.list_extend_list_tuple_0 l its.toArray n b its2.toArray n2 hlong (by rw [List.size_toArray]; omega) (by omega)) ⟨e, e2, ?_⟩
    refine ⟨.non, _, I.lset (its' := its ++ its2) e3 e (by simp) (r.append r2) ?_, rfl, q.at⟩
    rw [List.length_append]
    omega
end
theorem g_extT {l b : Addr} {xs zs : List V} {H : Hp} {Q : VK} (h : H l = some (.lst xs)) (e : Tup H b zs) (z : xs.length + zs.length ≤ 1000) (q : ∀ H', Keep [l] H H' → H' l = some (.lst (xs ++ zs)) → Q .non H') : uExtT (.ref l) [.ref b] H Q := ⟨l, b, xs, zs, rfl, rfl, h, .inr e, len_le (by omega), q⟩
end Wg

/-! Wagon, part 19: xs[::k], k 1 or -1, of a list. -/
namespace Wg
open PySem PySem.Spec PyProof.Rows L2
theorem pick_one (items : Array Value) : slicePick items none none (some 1) = items := by
  have h : slicePick items none none (some 1) = slicePick items none none none := rfl
  rw [h, show items = items.toList.toArray by simp, slicePick_cut]
  simp [HT.sIx]
  rw [List.take_of_length_le (by simp)]
section
variable {X : Cx}
def tStepL (K : PySem.W.Frag) (te ts : TE) : TE := fun σ H Q => te σ H fun x H1 => tPart ts σ H1 fun o H2 => ∃ a xs v, x = .ref a ∧ SqL K H2 a xs ∧ o = some v ∧ (v = 1 ∨ v = -1) ∧ ∀ p, H2 p = none → Q (.ref p) (upd H2 p (.lst (if v = 1 then xs else xs.reverse)))
theorem pe_stepL {e es : Expr} {te ts : TE} {p3 pos : Pos} (he : PE X e te) (hs : PE X es ts) : PE X (.Subscript e (.Slice none none (some es) p3) pos) (tStepL X.K te ts) := by
  refine ⟨fun pins s σ H Q I h => ?_⟩
  refine Subscript_ (thn (he.run pins s σ H _ I h) fun v s1 ⟨x, H1, I1, r1, q1⟩ => ?_)
  have hst : PO X (some es) (tPart ts) := po_some hs
  refine wpAny_Slice (thn (po_none.run pins s1 σ H1 (fun o H2 => o = none ∧ H2 = H1) I1 ⟨rfl, rfl⟩) fun vl s2 ⟨l, H2, I2, pl, el, e2⟩ => ?_)
  subst el e2
  refine thn (po_none.run pins s2 σ H2 (fun o H3 => o = none ∧ H3 = H2) I2 ⟨rfl, rfl⟩) fun vu s3 ⟨u, H3, I3, pu, eu, e3⟩ => ?_
  subst eu e3
  refine thn (hst.run pins s3 σ H3 _ I3 q1) fun vs s4 ⟨o, H4, I4, ps, q4⟩ => ?_
  obtain ⟨a, xs, w, ex, hx, eo, hw, q⟩ := q4
  subst ex eo
  cases r1
  have I5 : Inv X pins σ H4 { s4 with heap := s4.heap.push { cls := .type "slice", data := .fields #[vl, vu, vs] } } := I4.kept (t' := s4.toks) fun b ob q => Heap.get?_push_of_some _ q
  obtain ⟨its, r, ht, hz⟩ := I5.list hx
  have hlen := r.length
  show wpAny (model X.prog X.w) X.A (subscriptTail e (.Slice none none (some es) p3) (.ref a) (.ref s4.heap.objs.size)) (EP X pins σ Q) X.xe { s4 with heap := s4.heap.push { cls := .type "slice", data := .fields #[vl, vu, vs] } }
  refine tail_any (ops := [.ref a, .ref s4.heap.objs.size]) ht.isList.typeIs (PySem.slot_list_getitem.lookup) ?_ (by with_unfolding_all rfl)
  refine wpAny_getItem_list_slice ht.isList (Heap.IsSliceOf.new _ vl vu vs) pl pu ps (by rcases hw with rfl | rfl <;> decide) ?_ (by rw [List.size_toArray]; omega)
  rcases hw with rfl | rfl
  · rw [pick_one]
    refine ⟨.ref _, _, I5.laid (t' := s4.toks) (o := .lst xs) (fun b ob q => Heap.get?_push_of_some _ q) (Nat.le_refl _) ?_, rfl, q _ (I5.hok.fresh (Nat.le_refl _))⟩
    exact ⟨hz, _, 0, r, Heap.get?_push_size _ rfl⟩
  · rw [PySem.W.krv_pick]
    refine ⟨.ref _, _, I5.laid (t' := s4.toks) (o := .lst xs.reverse) (fun b ob q => Heap.get?_push_of_some _ q) (Nat.le_refl _) ?_, rfl, q _ (I5.hok.fresh (Nat.le_refl _))⟩
    exact ⟨by rw [List.length_reverse]; exact hz, _, 0, r.reverse, Heap.get?_push_size _ rfl⟩
end
theorem e_stepL {K : PySem.W.Frag} {te ts : TE} {σ : L2.St} {H : Hp} {Q : VK} : tStepL K te ts σ H Q ↔ te σ H fun x H1 => ts σ H1 fun y H2 => ∃ i, y = .int i ∧ ∃ a xs v, x = .ref a ∧ SqL K H2 a xs ∧ some i = some v ∧ (v = 1 ∨ v = -1) ∧ ∀ p, H2 p = none → Q (.ref p) (upd H2 p (.lst (if v = 1 then xs else xs.reverse))) := Iff.rfl
end Wg

/-! Wagon, part 20: a for over zip of two tuples  -/
namespace Wg
open PySem PySem.Spec PyProof.Rows L2 RZ
def FZ (K : PySem.W.Frag) (g : TG) (tb : TS) (D : Ends) (σ : L2.St) (vs : List V) (H1 : Hp) : Prop := tFor (iZipA K (fun _ H Q => Q vs H)) g tb D σ H1
theorem e_forZ {K : PySem.W.Frag} {ta : TA} {g : TG} {tb : TS} {D : Ends} {σ : L2.St} {H : Hp} : tFor (iZipA K ta) g tb D σ H ↔ ta σ H (FZ K g tb D σ) := Iff.rfl
theorem g_FZ {K : PySem.W.Frag} {g : TG} {tb : TS} {D : Ends} {σ : L2.St} {H1 : Hp} {a b : Addr} {xs ys : List V} (Pv : Nat → L2.St → Hp → Prop) (ha : Tup H1 a xs) (hb : Tup H1 b ys) (hl2 : xs.length = ys.length) (h0 : Pv 0 σ H1) (hl : ∀ i σ H, i ≤ xs.length → Pv i σ H → Tup H a xs ∧ Tup H b ys)
    (hs : ∀ i x y σ H T H', xs[i]? = some x → ys[i]? = some y → Pv i σ H → H T = none → Keep [] H H' → H' T = some (.tup [x, y]) → g (.ref T) σ H' fun σ2 H2 => tb { D with nx := Pv (i + 1), ct := Pv (i + 1), bk := D.nx } σ2 H2) (hd : ∀ σ H, Pv xs.length σ H → D.nx σ H) : FZ K g tb D σ [.ref a, .ref b] H1 := by
  refine ⟨a, b, xs, ys, rfl, .inr ⟨ha.sq, hb.sq, fun i m σ H => m = xs.length - i ∧ i ≤ xs.length ∧ Pv i σ H, ⟨xs.length, by simp, Nat.zero_le _, h0⟩, ?_⟩⟩
  rintro i m σ H ⟨rfl, hi, p⟩
  obtain ⟨ta, tb'⟩ := hl i σ H hi p
  by_cases hlt : i < xs.length
  · have hx := List.getElem?_eq_getElem hlt
    have hy := List.getElem?_eq_getElem (show i < ys.length by omega)
    refine .inr ⟨⟨xs, ys, _, _, ta.sq, tb'.sq, hx, hy⟩, Pv (i + 1), fun σ' H' p' => ⟨xs.length - (i + 1), by omega, rfl, hlt, p'⟩, fun x H' y => ?_⟩
    obtain ⟨T, x', y', rfl, nT, rfl, f1, f2⟩ := y
    exact hs i x' y' σ H T _ (f1 xs ta.sq) (f2 ys tb'.sq) p nT (Keep.new nT) upd_same
  · have e : i = xs.length := by omega
    subst e
    exact .inl ⟨⟨xs, ys, ta.sq, tb'.sq, .inl (Nat.le_refl _)⟩, hd σ H p⟩
end Wg

/-! Wagon, part 21: xs[a:b] = ys. -/
namespace Wg
open PySem PySem.Spec PyProof.Rows L2
section
variable {X : Cx}
def gSli (to tl th : TE) : TG := fun v σ H R => to σ H fun x H1 => tl σ H1 fun i H2 => th σ H2 fun j H3 => ∃ l b xs ys a c, x = .ref l ∧ v = .ref b ∧ i = .int a ∧ j = .int c ∧ H3 l = some (.lst xs) ∧ H3 b = some (.lst ys) ∧ l ≠ b ∧ 0 ≤ a ∧ a ≤ c ∧ c ≤ xs.length ∧ xs.length + ys.length ≤ sizeLine ∧
  Ch H3 l (.lst (xs.take a.toNat ++ ys ++ xs.drop c.toNat)) (R σ)
theorem pg_sli {o lo hi : Expr} {to tl th : TE} {p2 pos : Pos} (ho : PE X o to) (hl : PE X lo tl) (hh : PE X hi th)
    (ha : ∀ v, assign (.Subscript o (.Slice (some lo) (some hi) none p2) pos) X.env v = (do
      let ov ← holding [v] (eval o X.env)
      let iv ← holding [v, ov] (eval (.Slice (some lo) (some hi) none p2) X.env)
      standAt pos
      holding [v, ov, iv] (setItem ov iv v)
      release [iv, v, ov] []) := by intro _; rfl) : PG X (.Subscript o (.Slice (some lo) (some hi) none p2) pos) (gSli to tl th) := by
  refine ⟨fun pins s σ H v u Q I r h => ?_⟩
  rw [ha]
  refine wpAny_bind (wpAny_holding (thn (ho.run pins s σ H _ I h) fun ov s1 ⟨x, H1, I1, r1, q1⟩ => ?_))
  refine wpAny_bind (wpAny_holding ?_)
  refine wpAny_Slice ?_
  rw [evalPart_some, evalPart_some, evalPart_none]
  refine thn (hl.run pins s1 σ H1 _ I1 q1) fun vl s2 ⟨i, H2, I2, r2, q2⟩ => thn (hh.run pins s2 σ H2 _ I2 q2) fun vu s3 ⟨j, H3, I3, r3, q3⟩ => ?_
  refine wpAny_pure ?_
  obtain ⟨l, b, xs, ys, a, c, rfl, rfl, rfl, rfl, e1, e2, ne, h0, hac, hc, hz, q⟩ := q3
  cases r1
  cases r
  have I4 : Inv X pins σ H3 { s3 with heap := s3.heap.push { cls := .type "slice", data := .fields #[vl, vu, .none] } } := I3.kept (t' := s3.toks) fun b ob q => Heap.get?_push_of_some _ q
  refine wpAny_bind (wpAny_standAt (wpAny_bind (wpAny_holding (set_slice I4 e1 e2 ne (Heap.IsSliceOf.new ..) r2 r3 h0 hac hc hz fun s' I5 => ?_))))
  exact wpAny_release ⟨σ, _, I5, q.at⟩
end
end Wg

/-! Wagon, part 22: min(xs, default=None) of a list of ints. -/
namespace Wg
open PySem PySem.Spec PyProof.Rows L2
section
variable {X : Cx}
def tMinN (K : PySem.W.Frag) (ta : TE) : TE := fun σ H Q => ta σ H fun x H1 => ∃ a ns, x = .ref a ∧ SqL K H1 a (ns.map V.int) ∧ (ns = [] → Q .non H1) ∧ ∀ m, m ∈ ns → (∀ y, y ∈ ns → m ≤ y) → Q (.int m) H1
theorem pe_minN {a : Expr} {ta : TE} {j : Nat} {p p2 p3 pos : Pos} (hc : X.calm = true) (hu : X.A.units + 64 < cLine) (hg : Gl X "min") (hm : X.mg "min" = none) (ha : PE X a ta)
    (he : backTo pos (starEach [a] X.env) = (false, eval a X.env) :: backTo pos (starEach [] X.env) := by rfl) :
    PE X (.Call (.Name "min" p) [a] [⟨some "default", .Constant .none j p2, p3⟩] pos) (tMinN X.K ta) := by
  refine ⟨fun pins s σ H Q I h => ?_⟩
  refine wpAny_Call_Name_kw (ld_blt I hg hm (show bootBuiltins "min" = some (.builtin "min") by decide +kernel) ?_)
  refine PyProof.Rows.callWith_kw ?_ he (by rw [he]; rfl)
  rw [he]
  refine Calls.spliced_cons (thn (ha.run pins s σ H _ I h) fun v s1 ⟨x, H1, I1, r1, q1⟩ => ?_)
  refine Calls.spliced_nil ?_
  obtain ⟨l, ns, rfl, hs, q0, q⟩ := q1
  cases r1
  obtain ⟨its, rv, hl, hz⟩ := I1.list hs
  refine PyProof.Rows.kws_cons (Constant_none (PyProof.Rows.kws_nil ?_))
  show wpAny _ _ (call (.builtin "min") [Value.ref l] [(Str.ofString "default", Value.none)]) _ _ _
  have dps : ∀ ns : List Int, DpAll X.K H1 (ns.map V.int) (ns.map .int) := fun ns => by
    induction ns with
    | nil => exact .nil
    | cons n ns ih => exact .cons (.int n) ih
  obtain ⟨as, hr⟩ := Dp.readsAll I1 _ _ _ (dps ns) rv
  have al : PySem.W.AlikeAll (ns.map .int) := by
    refine ⟨fun x hx y hy => ?_, fun x hx => ?_⟩
    · obtain ⟨i, _, rfl⟩ := List.mem_map.mp hx
      obtain ⟨j, _, rfl⟩ := List.mem_map.mp hy
      rfl
    · obtain ⟨i, _, rfl⟩ := List.mem_map.mp hx
      exact fun z => nomatch z
  have dp : PyData.depthAll (ns.map .int) = 0 := by
    clear hr al dps q0 q hs rv hz
    induction ns with
    | nil => simp [PyData.depthAll]
    | cons n ns ih => simp [PyData.depthAll, PyData.depth, ih]
  refine PySem.W.min_list_default (I1.ok.hd hc) hl.isList (as := as) hr al (by omega) (fun e h' tk hk => ?_) fun y ys i v h' tk bs e hv rd hk => ?_
  · exact ⟨.non, H1, I1.kept hk, rfl, q0 (List.map_eq_nil_iff.mp e)⟩
  · cases ns with
    | nil => cases e
    | cons n ns =>
      rw [List.map_cons] at e
      cases e
      rw [PySem.W.minD_ints] at rd
      obtain ⟨t, rfl⟩ : ∃ t, v = .int (ns.foldl min n) t := by
        cases rd
        exact ⟨_, rfl⟩
      have h1 : ∀ (ns : List Int) (n : Int), ns.foldl min n ∈ n :: ns ∧ ∀ y ∈ n :: ns, ns.foldl min n ≤ y := by
        intro ns
        induction ns with
        | nil => intro n; exact ⟨List.mem_singleton.mpr rfl, fun y hy => by rw [List.mem_singleton.mp hy]; exact Int.le_refl _⟩
        | cons m ns ih =>
          intro n
          obtain ⟨a, b⟩ := ih (min n m)
          rw [List.foldl_cons]
          have c := b (min n m) (List.mem_cons_self)
          refine ⟨?_, fun y hy => ?_⟩
          · rcases List.mem_cons.mp a with a | a
            · rw [a]
              by_cases hle : n ≤ m
              · rw [Int.min_eq_left hle]; simp
              · rw [Int.min_eq_right (by omega)]; simp
            · simp [a]
          · rcases List.mem_cons.mp hy with rfl | hy
            · exact Int.le_trans c (Int.min_le_left _ _)
            · rcases List.mem_cons.mp hy with rfl | hy
              · exact Int.le_trans c (Int.min_le_right _ _)
              · exact b y (List.mem_cons_of_mem _ hy)
      exact ⟨.int _, H1, I1.kept hk, ⟨t, rfl⟩, q _ (h1 ns n).1 (h1 ns n).2⟩
end
end Wg

/-! Wagon, part 23: a comprehension over enumerate(tuple); the order of tuples that begin with numbers. -/
namespace Wg
open PySem PySem.Spec PyProof.Rows L2
def CEn (g : TG) (tt : TT) (te : TE) (vs : List Nat) (σ : L2.St) (Q : VK) (ws : List V) (H1 : Hp) : Prop := ∃ a xs, ws = [.ref a] ∧ Tup H1 a xs ∧ CB (Itn a xs) g tt te vs σ Q H1
theorem e_lcEn {K : PySem.W.Frag} {ta : TA} {g : TG} {tt : TT} {te : TE} {vs : List Nat} {σ : L2.St} {H : Hp} {Q : VK} : tLc (iEnumU K ta) g tt te vs σ H Q ↔ ta σ H (CEn g tt te vs σ Q) := Iff.rfl
theorem g_CEn {K : PySem.W.Frag} {g : TG} {tt : TT} {te : TE} {vs : List Nat} {σ : L2.St} {Q : VK} {H1 : Hp} {a : Addr} {us : List V} (ha : Tup H1 a us) (P : Nat → Hp → List V → Prop)
    (p0 : ∀ D H2, H1 D = none → Keep [] H1 H2 → P 0 H2 [])
    (ps : ∀ D i x H acc (R : VK) (R0 : Hp → Prop) T H', H1 D = none → us[i]? = some x → Keep [] H1 H' → H' D = some (.lst acc) → Keep [] H H' → P i H acc → H' T = some (.tup [.int (i : Nat), x]) →
      (∀ z H4, Keep [] H' H4 → acc.length < sizeLine → (∀ H5, Keep [D] H4 H5 → P (i + 1) H5 (acc ++ [z])) → R z H4) → (∀ H3, Keep [] H' H3 → P (i + 1) H3 acc → R0 H3) →
      g (.ref T) (wipe σ vs) H' fun σ2 H2 => wipe σ2 vs = wipe σ vs ∧ tt σ2 H2 fun bb H3 => if bb = true then te σ2 H3 R else R0 H3)
    (pd : ∀ D H acc, H1 D = none → Keep [] H1 H → H D = some (.lst acc) → P us.length H acc → Q (.ref D) H) : CEn g tt te vs σ Q [.ref a] H1 := by
  refine ⟨a, us, rfl, ha, fun D hD => ?_⟩
  refine ⟨fun i m H => m = us.length - i ∧ i ≤ us.length ∧ Keep [] H1 H ∧ ∃ acc, H D = some (.lst acc) ∧ P i H acc, ⟨us.length, by omega, by omega, Keep.new hD, [], upd_same, p0 D _ hD (Keep.new hD)⟩, ?_⟩
  rintro i m H ⟨rfl, hi, k, acc, eD, p⟩
  have ta := ha.keep k nin0
  by_cases hlt : i < us.length
  · have hx := List.getElem?_eq_getElem hlt
    refine .inr ⟨⟨hlt, ta⟩, fun H' => i + 1 ≤ us.length ∧ Keep [] H1 H' ∧ ∃ acc, H' D = some (.lst acc) ∧ P (i + 1) H' acc, fun H' q => ⟨us.length - (i + 1), by omega, rfl, q⟩, fun v H' y => ?_⟩
    obtain ⟨T, x', rfl, hT, rfl, f1⟩ := y
    have kn : Keep [] H (upd H T (.tup [.int (i : Nat), x'])) := Keep.new hT
    refine ps D i x' H acc _ _ T _ hD f1 (k.trans kn) (kn _ _ nin0 eD) kn p upd_same (fun z H4 k4 hz q => ⟨acc, k4 _ _ nin0 (kn _ _ nin0 eD), hz, hlt, (k.trans (kn.trans k4)).past Keep.set hD, _, upd_same, q _ Keep.set⟩) fun H3 k3 q => ⟨hlt, k.trans (kn.trans k3), acc, k3 _ _ nin0 (kn _ _ nin0 eD), q⟩
  · have e : i = us.length := by omega
    subst e
    exact .inl ⟨⟨rfl, ta⟩, pd D H acc hD k eD p⟩
theorem lt_of_head {a b : Int} {r r' : List PyData} (h : a < b) : PySem.W.dataLt (.tuple (.int a :: r)) (.tuple (.int b :: r')) = true := by
  unfold PySem.W.dataLt
  simp only [PySem.W.keyToks, PySem.W.keyToksAll, List.cons_append, List.nil_append]
  simp [PyProof.Rows.lexLt, PyProof.Rows.itemOrd]
  refine .inr ⟨by decide, .inl ?_⟩
  simp [PyProof.Rows.itemLt, h]
theorem nlt_of_head {a b : Int} {r r' : List PyData} (h : b < a) : PySem.W.dataLt (.tuple (.int a :: r)) (.tuple (.int b :: r')) = false := by
  have h1 := lt_of_head (r := r') (r' := r) h
  cases e : PySem.W.dataLt (.tuple (.int a :: r)) (.tuple (.int b :: r')) with
  | false => rfl
  | true =>
    have h2 := (PyProof.Rows.listOrd PyProof.Rows.itemOrd).trans (PySem.W.keyToks (.tuple (.int b :: r'))) (PySem.W.keyToks (.tuple (.int a :: r))) (PySem.W.keyToks (.tuple (.int b :: r'))) h1 e
    have h3 := (PyProof.Rows.listOrd PyProof.Rows.itemOrd).irrefl (PySem.W.keyToks (.tuple (.int b :: r')))
    exact Bool.noConfusion (h3.symm.trans h2)
end Wg

/-! Wagon, part 24: len(set(xs)) of a list of texts, none told twice. -/
namespace Wg
open PySem PySem.Spec PyProof.Rows L2
section
variable {P : Program} {w : World} {A : Around} {R : Result → Shared → Prop} {it : Addr} {near own : List Addr} {G : Array GenState → Array GenState → Prop} {n : Nat} {Pv : Nat → Value → Prop} {St : Nat → Shared → Prop}
variable {K : Type} [DecidableEq K] [BEq K] [LawfulBEq K] {kd : KeyKind P w K}
theorem nodup_next {ks : List K} (nd : ks.Nodup) {i : Nat} (h : i < ks.length) : ks[i] ∉ ks.take i := fun hm => by
  obtain ⟨j, hj, e⟩ := List.getElem_of_mem hm
  rw [List.length_take] at hj
  rw [List.getElem_take] at e
  exact List.pairwise_iff_getElem.mp nd j i (by omega) h (by omega) e
/-- what set.update does over what walks through keys of one kind, none twice -/
theorem put_all (W : WalksS P w A.in1 it near own G n Pv St) {c : Addr} (hc : c ∉ near) {ks : List K} (hl : ks.length = n) (nd : ks.Nodup) (few : n + 1 < scanBound)
    (hv : ∀ i v, Pv i v → ∃ h : i < ks.length, kd.is ks[i] v = true ∧ v.scannable = true) :
    ∀ (m i : Nat), i + m = n → ∀ s : Shared, St i s → s.heap.SetOf kd c (fun k => decide (k ∈ ks.take i)) i →
      (∀ s', Moved (c :: own) G s s' → s'.heap.SetOf kd c (fun k => decide (k ∈ ks)) n → R (.ok (.ret .none)) s') →
      codeAny (model P w) A (.builtin "set.update.loop" ⟨[.ref c, .ref it], []⟩) R s := by
  have nc : c ∉ own := fun h => hc (W.sub c h)
  have up : ∀ {h h' : Heap} {S : K → Bool} {q : Nat}, h.SetOf kd c S q → (∀ o, h.get? c = some o → h'.get? c = some o) → h'.SetOf kd c S q := fun x k => by
    obtain ⟨o, es, ep, t, ho, x⟩ := x
    exact ⟨o, es, ep, t, k o ho, x⟩
  intro m
  induction m with
  | zero =>
    intro i e s st hS fin
    have e : i = n := e
    subst e
    refine codeAny_builtin PyProof.Rows.F.entry_set_update_loop ?_
    rw [Around.under_plainId PyProof.Rows.F.plain_set_update_loop]
    refine wpAny_bind (m := pyNext (.ref it)) (W.done s _ _ st fun s' mv => wpAny_pure (fin s' (mv.mono fun _ h => .tail _ h) ?_))
    have := up hS fun o ho => mv.heap c o nc ho
    have all : ks.take i = ks := by rw [← hl, List.take_length]
    simpa only [all] using this
  | succ m ih =>
    intro i e s st hS fin
    refine codeAny_builtin PyProof.Rows.F.entry_set_update_loop ?_
    rw [Around.under_plainId PyProof.Rows.F.plain_set_update_loop]
    refine wpAny_bind (m := pyNext (.ref it)) (W.item i s _ _ (by omega) st fun v s1 pv st1 mv => ?_)
    obtain ⟨hi, hk, sc⟩ := hv i v pv
    refine wpAny_bind (m := holding [v] (setAdd c v)) (wpAny_holding ?_)
    unfold setAdd
    refine wpAny_holding (wpAny_bind (kd.pyHash hk ?_))
    refine wpAny_setAddHashed_of (s := { s1 with toks := s1.toks + 1 }) hk sc (up hS fun o ho => mv.heap c o nc ho) (by omega) fun h2 same hS2 => ?_
    have no := nodup_next nd hi
    rw [if_neg (by rw [decide_eq_true_eq]; exact no)] at hS2
    have hS3 : h2.SetOf kd c (fun k => decide (k ∈ ks.take (i + 1))) (i + 1) := by
      refine PyProof.Rows.SetOf_congr hS2 (fun k => ?_) rfl
      rw [List.take_succ, List.getElem?_eq_getElem hi]
      simp only [Option.toList_some, List.mem_append, List.mem_singleton, Bool.decide_or]
    refine wpAny_pure ⟨plainId_quiet PyProof.Rows.F.plain_set_update_loop _, ih (i + 1) (by omega) _ (W.frame _ s1 _ _ st1 (Nat.le_succ _) fun b hb o ho => ?_) hS3 fun s2 mv2 hS4 => ?_⟩
    · rw [same.2 b fun x => hc (x ▸ hb)]
      exact ho
    · refine fin s2 (Moved.trans W.gtrans ((mv.mono fun _ h => .tail _ h).then_heap (Nat.le_succ _) fun b o hb ho => ?_) mv2) hS4
      rw [same.2 b fun x => hb (x ▸ .head _)]
      exact ho
end
section
variable {P : Program} {w : World} {A : Around} {E : Value → Shared → Prop} {s : Shared} {K : Type} [DecidableEq K] [BEq K] [LawfulBEq K] {kd : KeyKind P w K}
theorem set_of {l : Addr} {vs : Array Value} {ks : List K} {Q : Value → Shared → Prop} (hh : A.handled = none) (hl : s.heap.IsList l vs) (hn : ks.length = vs.size) (nd : ks.Nodup) (few : vs.size + 1 < scanBound)
    (hv : ∀ (i : Nat) (v : Value), vs[i]? = some v → ∃ h : i < ks.length, kd.is ks[i] v = true ∧ v.scannable = true)
    (q : ∀ (h : Heap) (t : Nat), h.SetOf kd s.heap.objs.size (fun k => decide (k ∈ ks)) vs.size → (∀ b o, b < s.heap.objs.size → s.heap.get? b = some o → h.get? b = some o) → Q (.ref s.heap.objs.size) { s with heap := h, toks := t }) :
    wpAny (model P w) A (call (.type "set") [.ref l]) Q E s := by
  obtain ⟨cl, rest, hmro⟩ := PySem.F.called_set.mro
  have f1 := PySem.F.called_set.made
  have f2 := PySem.F.called_set.sub
  have f3 := PySem.F.called_set.notType
  have f4 := PySem.F.called_set.canCreate
  have f5 := PySem.F.typeCall_set_1 (.ref l)
  have f6 := PySem.F.called_set.init.lookup
  have f7 := PySem.F.called_set.init.bind (.ref s.heap.objs.size)
  refine wpAny_call (codeAny_of_tree ?_)
  change wpAny _ _ (callAny (.type "set") _) _ _ _
  refine wpAny_pure ⟨Code.quiet_builtin _ (by decide +kernel), codeAny_builtin PySem.F.entry_type_call ?_⟩
  rw [Around.under_plain (weight_type_call_type "set" [.ref l] []) rfl]
  repeat (any_goals (first | assumption | wp_step))
  refine codeAny_mono (code_set_new_1 (.ref l) (E := E) (Q₁ := fun r s1 => ∃ b : Bool, r = .ref s.heap.objs.size ∧ s1 = { s with heap := s.heap.push { cls := .type "set", dict := none, data := .set #[] 0 (.fresh 0 0 b) } }) fun b => ⟨b, rfl, rfl⟩) fun r s1 hr => ?_
  rcases r with x | fl
  · exact hr
  cases fl with
  | ret r =>
    obtain ⟨b, rfl, rfl⟩ := hr
    have at0 : (s.heap.push { cls := .type "set", dict := none, data := .set #[] 0 (.fresh 0 0 b) }).get? s.heap.objs.size = some { cls := .type "set", dict := none, data := .set #[] 0 (.fresh 0 0 b) } := Heap.get?_push_size _ rfl
    have ty0 : Shared.TypeIs { s with heap := s.heap.push { cls := .type "set", dict := none, data := .set #[] 0 (.fresh 0 0 b) } } (.ref s.heap.objs.size) "set" := ⟨_, at0, rfl⟩
    repeat (any_goals (first | assumption | wp_step))
    refine codeAny_mono (codeAny_call_builtin (R := wants (fun r s2 => r = .none ∧ ∃ h t, s2 = { s with heap := h, toks := t } ∧ h.SetOf kd s.heap.objs.size (fun k => decide (k ∈ ks)) vs.size ∧
      ∀ b o, b < s.heap.objs.size → s.heap.get? b = some o → h.get? b = some o) E) PySem.F.called_set.init.plain PySem.F.entry_set_init (check_set_init_1 ty0 ?_)) fun r2 s2 hr2 => ?_
    · obtain ⟨⟨kc, kd1, kdat, ksl⟩, g1, g2, nl, g3⟩ := hl
      simp only at g2 g3
      subst g2 g3
      have t1 := PySem.F.sub_list_set
      have t2 := PySem.F.sub_list_frozenset
      have t3 : (Value.type "list" == Value.type "dict") = false := by decide
      have g4 := Heap.get?_push_of_some ({ cls := .type "set", dict := none, data := .set #[] 0 (.fresh 0 0 b) } : Obj) g1
      have here : (s.heap.push { cls := .type "set", dict := none, data := .set #[] 0 (.fresh 0 0 b) }).IsList l vs := ⟨_, g4, rfl, nl, rfl⟩
      have low : l < s.heap.objs.size := Heap.lt_size g1
      unfold Builtin.«set.__init__» noKeywords Builtin.Frozenset.updateFrom
      generalize hpy : pyIter = py
      wp_walk
      subst hpy
      refine wpAny_pyIter_list here (wpAny_bind (wpAny_runValue ?_))
      have sz : (s.heap.push { cls := .type "set", dict := none, data := .set #[] 0 (.fresh 0 0 b) }).objs.size = s.heap.objs.size + 1 := Heap.size_push _ _
      have apart : l ≠ s.heap.objs.size + 1 := Nat.ne_of_lt (Nat.lt_succ_of_lt low)
      have own : s.heap.objs.size ≠ s.heap.objs.size + 1 := Nat.ne_of_lt (Nat.lt_succ_self _)
      have quiet : A.in1.in1.in1.handled = none := by simp [hh]
      refine put_all (kd := kd) ((Walks.list quiet _ l (by rw [sz]; exact apart) vs).toS) (c := s.heap.objs.size) (by rw [sz]; simp only [List.mem_cons, List.not_mem_nil, or_false]; exact fun x => x.elim own (Nat.ne_of_gt low)) hn nd few hv vs.size 0 (by omega) _
        ⟨⟨_, Heap.get?_push_size _ rfl, rfl, rfl⟩, here.push _⟩ ?_ fun s2 mv hS => ?_
      · exact PyProof.Rows.SetOf_congr ((PyProof.Rows.setObjOf_fresh (knd := kd) b).setOf (Heap.get?_push_of_some _ at0) (by unfold scanBound; omega)) (fun k => by simp) rfl
      · obtain ⟨h2, gg, dd, tt, oo⟩ := s2
        obtain rfl : gg = s.gens := mv.gens
        obtain rfl : dd = s.drawn := mv.drawn
        obtain rfl : oo = s.os := mv.os
        refine wpAny_pure (wpAny_pure ⟨rfl, h2, tt, rfl, hS, fun a o ha ho => mv.heap a o ?_ (Heap.get?_push_of_some _ (Heap.get?_push_of_some _ ho))⟩)
        rw [sz]
        simp only [List.mem_cons, List.not_mem_nil, or_false]
        exact fun x => x.elim (Nat.ne_of_lt ha) (Nat.ne_of_lt (Nat.lt_succ_of_lt ha))
    · rcases r2 with x | f2
      · exact hr2
      cases f2 with
      | ret r =>
        obtain ⟨rfl, h, t, rfl, hS, old⟩ := hr2
        repeat (any_goals (first | assumption | wp_step))
        exact q _ _ hS old
      | _ => exact hr2.elim
  | _ => exact hr.elim
end
section
variable {X : Cx}
theorem text_at : ∀ {xs : List Str} {vs : List Value}, Vals (xs.map V.str) vs → ∀ (i : Nat) (v : Value), vs[i]? = some v → ∃ h : i < xs.length, (strKind X.prog X.w).is xs[i] v = true ∧ v.scannable = true
  | [], _, .nil, i, v, h => by simp at h
  | x :: xs, _, .cons r _, 0, v, h => by
    obtain ⟨t, rfl⟩ := r
    obtain rfl : Value.str x t = v := Option.some.inj h
    exact ⟨Nat.succ_pos _, strKind_is _ _ _ _, rfl⟩
  | x :: xs, _, .cons _ t, i + 1, v, h => by
    obtain ⟨g, q⟩ := text_at t i v h
    exact ⟨Nat.succ_lt_succ g, q⟩
def tLenTexts (K : PySem.W.Frag) (ta : TE) : TE := fun σ H Q => ta σ H fun x H1 => ∃ (l : Addr) (xs : List Str), x = V.ref l ∧ SqL K H1 l (xs.map V.str) ∧ xs.Nodup ∧ xs.length < 64 ∧ Q (.int xs.length) H1
theorem pe_lenTexts {a : Expr} {ta : TE} {p p2 q pos : Pos} (calm : X.calm = true) (g1 : Gl X "len") (m1 : X.mg "len" = none) (g2 : Gl X "set") (m2 : X.mg "set" = none) (pa : PE X a ta)
    (each : starEach [a] X.env = (false, eval a X.env) :: starEach [] X.env := by rfl) : PE X (.Call (.Name "len" p) [.Call (.Name "set" p2) [a] [] q] [] pos) (tLenTexts X.K ta) := by
  refine ⟨fun pins s σ H Q I h => Call_ (ld_blt I g1 m1 boot_len (PyProof.Rows.callWith_builtin1 (PyProof.Rows.args_cons ?_ rfl) rfl rfl))⟩
  refine Call_ (ld_blt I g2 m2 boot_set (PyProof.Rows.callWith_type1 (PyProof.Rows.args_cons (thn (pa.run pins s σ H _ I h) fun v s1 ⟨x, H1, J, r, hx⟩ => PyProof.Rows.args_nil ?_) each) each rfl))
  obtain ⟨l, xs, rfl, sq, nd, few, hx⟩ := hx
  cases r
  obtain ⟨vs, rv, lv, _⟩ := J.list sq
  have sz : xs.length = vs.toArray.size := by rw [List.size_toArray, ← rv.length, List.length_map]
  refine set_of (kd := strKind X.prog X.w) (J.ok.hd calm) lv.isList sz nd (by unfold scanBound; omega) (fun i v e => text_at rv i v (by simpa using e)) fun h2 t hS old => PyProof.Rows.args_nil ?_
  obtain ⟨o, es, ep, tb, ho, ex, hd, _, _, _, fit, hn⟩ := hS
  rw [← sz] at hn
  exact call_len_set ho ex hd fit (by rw [hn]; omega) ⟨.int xs.length, H1, (J.kept fun b o e => old b o (Heap.lt_size e) e).tok _, ⟨_, by rw [hn]⟩, hx⟩
end
section
/-- sorted(d) of a dict whose keys are texts -/
def uSortD : List V → Hp → VK → Prop := fun xs H Q => ∃ (a : Addr) (kvs : List (Key × V)) (ks : List Str), xs = [.ref a] ∧ H a = some (.dK kvs) ∧ kvs.map (·.1) = ks.map Sum.inr ∧ ks.length < 64 ∧
  ∀ ys, ys.Perm ks → sortedS ys = true → Mk H (.lst (ys.map V.str)) Q
theorem call_uSortD {X : Cx} (hc : X.calm = true) : CallR X (.builtin "sorted") uSortD := by
  intro pins s σ H xs us Q I r h
  obtain ⟨a, kvs, ks, e, ha, hk, hl, q⟩ := h
  exact call_sortedD hc pins s σ H xs us Q I r ⟨a, kvs, ks, e, .inl ha, hk, hl, fun ys p h1 h2 n => q ys h1 h2 p _ n (Keep.new n) upd_same⟩
theorem lt_tri {a b : Str} (h1 : ltCps a.cps.toList b.cps.toList = false) (h2 : ltCps b.cps.toList a.cps.toList = false) : a = b := by
  rw [ltCps_eq, decide_eq_false_iff_not] at h1 h2
  have e : a.cps.toList = b.cps.toList := List.le_antisymm (List.not_lt.mp h2) (List.not_lt.mp h1)
  obtain ⟨a⟩ := a
  obtain ⟨b⟩ := b
  have e2 : a.toList = b.toList := e
  rw [Array.toList_inj.mp e2]
theorem rising_pw : ∀ (l : List Str) (p : Str), risingS p l = true → (p :: l).Pairwise fun a b => ltCps b.cps.toList a.cps.toList = false
  | [], p, _ => List.pairwise_singleton _ _
  | x :: l, p, h => by
    have h' : (!ltCps x.cps.toList p.cps.toList && risingS x l) = true := h
    rw [Bool.and_eq_true, Bool.not_eq_true'] at h'
    have ih := rising_pw l x h'.2
    refine List.pairwise_cons.mpr ⟨fun y hy => ?_, ih⟩
    rcases List.mem_cons.mp hy with rfl | hy
    · exact h'.1
    · have h2 := (List.pairwise_cons.mp ih).1 y hy
      have h1 := h'.1
      rw [ltCps_eq, decide_eq_false_iff_not] at h1 h2 ⊢
      exact List.not_lt.mpr (List.le_trans (List.not_lt.mp h1) (List.not_lt.mp h2))
theorem sort_pw : ∀ {l : List Str}, sortedS l = true → l.Pairwise fun a b => ltCps b.cps.toList a.cps.toList = false
  | [], _ => .nil
  | x :: l, h => rising_pw l x h
theorem sort_one {xs ys : List Str} (h1 : xs.Pairwise fun a b => ltCps b.cps.toList a.cps.toList = false) (h2 : sortedS ys = true) (p : ys.Perm xs) : ys = xs :=
  List.Perm.eq_of_pairwise (fun a b _ _ x y => lt_tri y x) (sort_pw h2) h1 p
end
end Wg

/-! Wagon, part 26: own classes: C(e, ..), o.m(e, ..), by promises of the kind Keeps. -/
namespace Wg
open PySem PySem.Spec PyProof.Rows L2
section
variable {X : Cx} {CX : CXT} {k : Nat} {C f : Addr} {fd : FuncData} {ps : List Str} {sp : Sp} {E : XK} {x m : Str} {p pos apos : Pos} {o e : Expr} {es : List Expr} {ta : TE} {t : TA}
/-- what a call of a class asks: two new places, the instance and its dict -/
def MadeAt (sp : Sp) (E : XK) (C : Addr) (vs : List V) (H : Hp) (Q : VK) : Prop :=
  ∀ i d, H i = none → H d = none → d ≠ i → sp (.ref i :: vs) (upd (upd H d (.own i)) i (.ins C d [])) (fun v H' => v = .non ∧ Q (.ref i) H') E
theorem made_go {pins : List (Addr × Obj)} {σ : L2.St} {H : Hp} {s : Shared} {Q : VK} {us : List Value} {vs : List V}
    (M : L2.Mk X.K C f) (F : Keeps X.prog X.w X.K X.mg X.base CX k f fd ps sp) (hr : Rm (k + 1) X.A) (hb : Binds X.K fd ps []) (hx : Passes CX X E)
    (I : Inv X pins σ H s) (r : Vals vs us) (h : MadeAt sp E C vs H Q) : wpAny (model X.prog X.w) X.A (call (.ref C) us) (EP X pins σ Q) X.xe s := by
  let i : Addr := s.heap.objs.size + 1
  let d : Addr := s.heap.objs.size
  have g : sp (.ref i :: vs) _ _ _ := h i d (I.hok.fresh (Nat.le_succ _)) (I.hok.fresh (Nat.le_refl _)) (Nat.ne_of_lt (Nat.lt_succ_self _))
  have J := Inv.made (C := C) I
  have rr : Vals (V.ref i :: vs) (Value.ref i :: us) := .cons rfl r
  have len : ((Value.ref i :: us) ++ []).length = ps.length := by
    rw [List.append_nil, ← rr.length]
    exact F.len _ _ _ _ g
  have bd := hb _ (Value.ref i :: us) J.kIn len
  rw [List.append_nil] at bd
  have go := F.run _ X.stack _ _ ⟨Value.ref i :: us, []⟩ (Value.ref i :: us) _ _ E ⟨hr.rm.make C us [], hr.gd⟩ (J.env0.make C us []) bd rr g
  refine wpAny_call ?_
  refine make_map (f := f) I.kIn M.makes M.init (beq_iff_eq.mp M.fn) ?_
  refine codeAny_mono go fun res s' hq => ?_
  match res, hq with
  | .error u, hq => exact hx pins σ _ _ u s' J hq
  | .ok (.ret u), hq =>
    obtain ⟨v, H', J', rv, rfl, q⟩ := J.after hq
    exact ⟨rv, V.ref (s.heap.objs.size + 1), H', J', rfl, q⟩
  | .ok .next, hq => exact hq.elim
  | .ok .brk, hq => exact hq.elim
  | .ok .cont, hq => exact hq.elim
/-- C(e, ..), C an own class -/
def tNewC (sp : Sp) (E : XK) (C : Addr) (t : TA) : TE := fun σ H Q => t σ H fun vs H1 => MadeAt sp E C vs H1 Q
theorem pe_newC (M : L2.Mk X.K C f) (F : Keeps X.prog X.w X.K X.mg X.base CX k f fd ps sp) (hr : Rm (k + 1) X.A) (hg : Gl X x) (hm : X.mg x = some (.ref C)) (hb : Binds X.K fd ps []) (hx : Passes CX X E) (ha : PA X (e :: es) t)
    (hdb : (x == ("__debug__" : Str)) = false := by decide) (he : starEach (e :: es) X.env = (false, eval e X.env) :: starEach es X.env := by rfl) (hpl : (backTo pos (starEach es X.env)).any (·.1) = false := by rfl) :
    PE X (.Call (.Name x p) (e :: es) [] pos) (tNewC sp E C t) := by
  constructor
  intro pins s σ H Q I h
  have args := ha.run pos pins s σ H _ I h
  refine wpAny_Call_Name_kw (ld_glob I hg hm (PySem.W.callWith_K (h₀ := X.base) I.ok.mod.kin M.kp (thn args fun us s1 hh => ?_) he hpl) hdb)
  obtain ⟨vs, H1, J, r, q⟩ := hh
  exact ⟨J.kIn, made_go M F hr hb hx J r q⟩
/-- o.m(e, ..), m a method of an own class -/
def tMth (C : Addr) (m : Str) (sp : Sp) (E : XK) (ta : TE) (t : TA) : TE := fun σ H Q => ta σ H fun x H1 => ∃ a d fs, x = .ref a ∧ H1 a = some (.ins C d fs) ∧ fs.lookup m = none ∧ t σ H1 fun vs H2 => sp (x :: vs) H2 Q E
theorem pe_mth {pl : Sem Bool} (ho : PE X o ta) (c : Cls X.K C) (hm : Meth X.K C m f) (F : Keeps X.prog X.w X.K X.mg X.base CX k f fd ps sp) (hr : Rm k X.A) (hb : Binds X.K fd ps []) (hx : Passes CX X E) (ha : PA X (e :: es) t)
    (hst : starEach (e :: es) X.env = (false, eval e X.env) :: starEach es X.env := by rfl) (hpl : (backTo pos (starEach es X.env)).any (·.1) = false := by rfl)
    (ht : eval (.Call (.Attribute o m apos) (e :: es) [] pos) X.env = (do
      let ov ← eval o X.env
      standAt apos.atName
      let (f, first) ← holding [ov] (getMethod ov m pl)
      callWith pos f first (backTo pos (starEach (e :: es) X.env)) (backToKw pos (keywordEach [] X.env))) := by rfl) :
    PE X (.Call (.Attribute o m apos) (e :: es) [] pos) (tMth C m sp E ta t) := by
  constructor
  intro pins s σ H Q I h
  have self := ho.run pins s σ H _ I h
  refine PySem.W.methodCall_KW (pl := pl) (thn self fun u s1 hh => ?_) ht
  obtain ⟨y, H1, J, ry, a, d, fs, rfl, ea, l, q⟩ := hh
  cases ry
  have args := ha.run pos pins s1 σ H1 _ J q
  refine getmeth_ok J ea c hm l (PySem.W.callWith_K (first := [.ref a]) (h₀ := X.base) I.ok.mod.kin hm.kp (thn args fun us s2 hh => ?_) hst hpl)
  obtain ⟨vs, H2, J2, r, q2⟩ := hh
  exact ⟨J2.kIn, go_fn (us := .ref a :: us) (vs := .ref a :: vs) F hr hb hx J2 (.cons rfl r) q2⟩
end
end Wg

/-! Wagon, part 27: d.update(e) of two dicts; methods by qualified names. -/
namespace Wg
open PySem PySem.Spec PyProof.Rows L2
section
variable {X : Cx}
def uUpd : V → List V → Hp → VK → Prop := fun x vs H Q => ∃ a b kvs more, x = .ref a ∧ vs = [.ref b] ∧ a ≠ b ∧ H a = some (.dK kvs) ∧ H b = some (.dK more) ∧ kvs.length + more.length ≤ sizeLine ∧ Ch H a (.dK (mergeK kvs more)) (Q .non)
theorem mt_uUpd : MtR X "dict.update" uUpd := by
  intro pins s σ H x vs v us Q I rx rv h
  obtain ⟨a, b, kvs, more, rfl, rfl, ne, ha, hb, few, q⟩ := h
  cases rx
  obtain ⟨u, rfl, ru⟩ := vals1 rv
  obtain rfl : u = Value.ref b := ru
  obtain ⟨z1, y1, ws, r1, d1⟩ := dk_of I.hok ha
  obtain ⟨z2, y2, ms, r2, d2⟩ := dk_of I.hok hb
  refine call_meetsIn PySem.F.slot_dict_update d1.typeIs PySem.F.entry_dict_update (PySem.F.args_dict_update_2 _ _) (meets_dict_update (mixKind X.prog X.w) a b ne y2) ⟨ws, ms, d1, d2, by rw [← r1.length, ← r2.length]; exact few, fun h2 dd _ same => ?_⟩
  have fits : (mergeK kvs more).length ≤ sizeLine := Nat.le_trans (length_mergeK more kvs) few
  have there : ∃ o, h2.get? a = some o := let ⟨o, _, _, ho, _⟩ := dd; ⟨o, ho⟩
  exact ⟨.non, upd H a (.dK (mergeK kvs more)), d_write (t' := s.toks) I (by rw [ha]; trivial) same there (dk_new fits y1 (r2.merge r1) dd), rfl, q.at⟩
end
structure FnM (K : PySem.W.Frag) (x qual : Str) (st : Stmt) (f : Addr) (fd : FuncData) (ps : List Str) : Prop where
  fn : Fun K x qual st f fd
  b : Binds K fd ps []
end Wg

/-! Wagon, part 28: a comprehension within a comprehension that reads names of it. -/
namespace Wg
open PySem PySem.Spec PyProof.Rows L2
theorem rel_seen {f : NameKind → Str → NameKind} (hf : ∀ k x, k = .cell ∨ k = .free → f k x = .cell ∨ f k x = .free) : ∀ {l : List (Str × NameKind)} {x : Str}, l.lookup x = some .cell ∨ l.lookup x = some .free →
    (l.map fun p => (p.1, f p.2 p.1)).lookup x = some .cell ∨ (l.map fun p => (p.1, f p.2 p.1)).lookup x = some .free
  | [], _, h => by simp at h
  | (n, k) :: l, x, h => by
    rw [List.map_cons, List.lookup_cons]
    rw [List.lookup_cons] at h
    cases e : x == n with
    | true =>
      rw [e] at h
      simp only [Option.some.injEq] at h
      have := hf k n h
      simpa using this
    | false =>
      rw [e] at h
      exact rel_seen hf h
theorem blkOk_in {N : List Str} {sc scope : Scope} {env : Env} {own : List (Str × Nat)} (h : blkC N sc scope own = true) : BlkOk N (relabel sc env) scope own := by
  have b := blkOk_by h
  refine ⟨b.kind, b.uniq, b.ix, fun y hy e => ?_, b.own⟩
  have := rel_seen (f := fun k n => if (k == NameKind.free && env.scope.kind == .function && env.kindOf n == some .cell) then .cell else k) (fun k x h => by
    split
    · exact .inl rfl
    · exact h) (b.free y hy e)
  have eq : (relabel sc env).names = sc.names.map fun p => (p.1, if (p.2 == NameKind.free && env.scope.kind == .function && env.kindOf p.1 == some .cell) then NameKind.cell else p.2) := by
    unfold relabel
    refine List.map_congr_left fun p _ => ?_
    obtain ⟨n, k⟩ := p
    show (if _ then _ else _) = _
    split <;> rfl
  rw [eq]
  exact this
end Wg

/-! Wagon, part 29: displays with [*xs, y]: HandS.Star; in, not in over data: HandS.Deep. -/
namespace Wg
open PySem PySem.Spec PyProof.Rows L2
theorem un65 {k : Nat} {A : Around} (hr : Rm k A) : A.units + 65 < cLine := by
  have := hr.rm.un
  omega
theorem g_FR2 {g : TG} {tb : TS} {D : Ends} {σ : L2.St} {H1 : Hp} {i0 j : Int} (b1 : -(2 ^ 62) ≤ i0) (b2 : i0 < 2 ^ 62) (b3 : -(2 ^ 62) ≤ j) (b4 : j < 2 ^ 62) (h : Loop (j - i0).toNat (fun i => .int (i0 + (i : Nat))) g tb D σ H1) : FR2 g tb D σ [.int i0, .int j] H1 := by
  obtain ⟨Pv, p0, ps, pd⟩ := h
  exact ⟨i0, j, rfl, ⟨b1, b2, b3, b4⟩, for_range (lo := i0) (n := (j - i0).toNat) Pv p0 (fun i σ H hi p => ps i σ H hi p) pd⟩
end Wg

/-! Wagon, part 30: all and any of a generator expression whose element is any expression. -/
namespace Wg
open PySem PySem.Spec PyProof.Rows L2

/-- the context of a generator expression's frame: it began at s; fp: its iterator's objects -/
abbrev gx (X : Cx) (s : Shared) (H : Hp) (ce : Env) (A : Around) (fp : List Addr) : Cx :=
  { X with s_0 := s, H_0 := H, env := ce, outer := X.stack, stack := ce :: X.stack, A := A, ex := fp, fn := fun _ => false, pn := [], xe := fun _ _ => False }
/-- the scope of a generator expression -/
structure GenOk (N : List Str) (sc scope : Scope) (own : List (Str × Nat)) : Prop where
  b : BlkOk N sc scope own
  noc : ∀ y ∈ scope.names, y.2 ≠ .cell
  dot : scope.names.lookup (".0" : Str) = some NameKind.local
  co : scope.isCoroutine = false
abbrev gEnv (X : Cx) (scope : Scope) (C : Addr) (code : Value) : Env := genEnv scope (cloFrom X.env.cells scope.names []) C code builtinsNs X.env
section
variable {X : Cx} {pins : List (Addr × Obj)} {σ : L2.St} {H : Hp} {s : Shared}
theorem gen_free {scope : Scope} {own : List (Str × Nat)} (I : Inv X pins σ H s) (ok : GenOk X.N X.env.scope scope own) : ∀ y ∈ scope.names, y.2 = .free → ∃ c, X.env.cells.lookup y.1 = some c := fun y hy fr =>
  (ok.b.free y hy fr).elim (fun q => I.ok.has _ (.inl q)) fun q => I.ok.has _ (.inr q)
/-- the frame's beginning -/
theorem gen_start {scope : Scope} {own : List (Str × Nat)} {fp : List Addr} {code : Value} {A : Around} {m : Str → Option Value} {z : Shared} (I : Inv X pins σ H s) (ok : GenOk X.N X.env.scope scope own) (hN : X.N.Nodup)
    (hfp : ∀ b ∈ fp, FpOk X pins H b ∧ b < s.heap.objs.size) (hd : A.handled = none) (fr : A.frames = some (gEnv X scope s.heap.objs.size code :: X.stack)) (zo : z.os = s.os) (zb : AllBare z.gens) (zk : ∀ b o, s.heap.get? b = some o → z.heap.get? b = some o)
    (zc : z.heap.Ns s.heap.objs.size m) : Inv (gx X s H (gEnv X scope s.heap.objs.size code) A fp) [] (wipe σ (own.map (·.2))) H z := by
  have free := gen_free I ok
  have inClo : ∀ {y c}, (y, c) ∈ cloFrom X.env.cells scope.names [] → X.env.cells.lookup y = some c ∧ c < s.heap.objs.size := fun {y c} hm => by
    rcases cloFrom_mem hm with q | ⟨q, rfl⟩
    · cases q
    · obtain ⟨c, hc⟩ := free _ q rfl
      rw [hc]
      obtain ⟨w, x⟩ := I.cell _ _ hc
      exact ⟨rfl, x.lt⟩
  have inCl : ∀ {y c}, (cloFrom X.env.cells scope.names []).lookup y = some c → X.env.cells.lookup y = some c ∧ c < s.heap.objs.size := fun e => inClo (PySem.mem_of_lookup e)
  have find : ∀ {y}, scope.names.lookup y = some .free → ∃ c, (cloFrom X.env.cells scope.names []).lookup y = some c ∧ X.env.cells.lookup y = some c := fun {y} q => by
    obtain ⟨c, e⟩ := mem_lookup (cloFrom_has (cells := X.env.cells) (acc := []) (PySem.mem_of_lookup q))
    exact ⟨c, e, (inCl e).1⟩
  have noCell : ∀ {y}, scope.names.lookup y ≠ some .cell := fun q => ok.noc _ (PySem.mem_of_lookup q) rfl
  have OK : (gx X s H (gEnv X scope s.heap.objs.size code) A fp).Ok := by
    refine ⟨I.ok.mod, ok.b.kind, I.ok.glob, rfl, Nat.le_refl _, fun y u c e1 e2 => ?_, fun y hy => ?_, fun y c q => ?_, fun _ => hd, fr, .inr ⟨rfl, rfl⟩, fun b hb => ⟨?_, fun y c e q => ?_⟩, I.bs, Nat.le_trans I.ok.bsz I.sz, fun b o e hb => ?_, fun b hb q => ?_, I.stack, I.stkFree⟩
    · exact I.ok.inj y u c (inCl e1).1 (inCl e2).1
    · rcases hy with q | q
      · exact absurd q noCell
      · obtain ⟨c, e, _⟩ := find q
        exact ⟨c, e⟩
    · cases q
    · exact Nat.ne_of_lt (hfp b hb).2
    · exact (hfp b hb).1.2.2.2.2.1 y c (inCl e).1 q
    · rcases (hfp b hb).1.2.2.2.1 with q | q
      · exact I.ok.noex b o e q
      · exact absurd (Nat.lt_of_lt_of_le (Heap.lt_size e) (Nat.le_trans I.ok.bsz q)) (Nat.lt_irrefl _)
    · rcases List.mem_cons.mp (I.stkSub b q) with q | q
      · exact (hfp b hb).1.2.1 q
      · exact (hfp b hb).1.2.2.1 q
  refine ⟨OK, zo, zb, Un.kept zk, ⟨m, zc, fun i y v e1 e2 vis => ?_⟩, fun y c e => ?_, I.hok.fresh (Nat.le_refl _), fun y c e => I.freeC y c (inCl e).1, fun p hp => absurd (show p ∈ ([] : List (Addr × Obj)) ++ [] from hp) (by simp), I.hok.kept zk, by rw [wipe_length]; exact I.len⟩
  · obtain ⟨e2, hne⟩ := wipe_some e2
    have fr' : scope.names.lookup y = some .free := by
      have no : ∀ k, scope.names.lookup y = some k → (k = .local ∨ k = .cell) → False := fun k q h => by
        rcases ok.b.own _ (PySem.mem_of_lookup q) h with e | e
        · obtain ⟨p, hp, ep⟩ := List.mem_map.mp e
          have e3 := ok.b.ix p hp
          rw [show p.1 = y from ep] at e3
          exact hne (List.mem_map.mpr ⟨p, hp, nodup_ix hN e3 e1⟩)
        · exact e (List.mem_of_getElem? e1)
      rcases vis with q | q | q
      · exact (no _ q (.inl rfl)).elim
      · exact (no _ q (.inr rfl)).elim
      · exact q
    obtain ⟨m', hn, hl⟩ := I.loc
    have visX : Vis X.env.scope y := (ok.b.free _ (PySem.mem_of_lookup fr') rfl).elim (fun q => .inr (.inl q)) fun q => .inr (.inr q)
    obtain ⟨w, r, q⟩ := hl i y v e1 e2 visX
    obtain ⟨c, h1, h2⟩ := find fr'
    refine ⟨w, r, .inr ⟨.inr fr', ?_⟩⟩
    rcases q with ⟨k, _⟩ | ⟨_, c', e', x⟩
    · have k : X.env.scope.names.lookup y = some .local := k
      rcases ok.b.free _ (PySem.mem_of_lookup fr') rfl with k' | k' <;> rw [show X.env.scope.names.lookup y = _ from k'] at k <;> cases k
    · rw [h2] at e'
      cases e'
      exact ⟨c, h1, x.keeps zk⟩
  · obtain ⟨w, x⟩ := I.cell y c (inCl e).1
    exact ⟨w, x.keeps zk⟩
end

theorem over_gen {AS : Around} {elt tg iter : Expr} {ifs : List Expr} {scope : Scope} {pos : Pos} {x y : Value} {env : Env} : AS.over (.compLoop (.GeneratorExp elt [⟨tg, iter, ifs, 0⟩] scope pos) 0 x y env) [] = AS.deeper env := by
  first
    | rfl
    | (obtain ⟨hd, d, fr, gs, u⟩ := AS; simp [Around.over, Around.deeper, marksOver, frameCount, unitsOf, envsOf, guardsOf, pushEnvs, pushGuards, Code.envs, Code.env?, Code.isFrame, Code.guards, Code.weight, Code.frames, Code.isCreation, Code.isGuard, Code.isCaller, Code.cUnits]; cases fr <;> rfl)
theorem over_gen0 {AS : Around} {elt tg iter : Expr} {ifs : List Expr} {scope : Scope} {pos : Pos} {x y : Value} {env : Env} : AS.over (.compStart (.GeneratorExp elt [⟨tg, iter, ifs, 0⟩] scope pos) 0 x y env) [] = AS.deeper env := by
  first
    | rfl
    | (obtain ⟨hd, d, fr, gs, u⟩ := AS; simp [Around.over, Around.deeper, marksOver, frameCount, unitsOf, envsOf, guardsOf, pushEnvs, pushGuards, Code.envs, Code.env?, Code.isFrame, Code.guards, Code.weight, Code.frames, Code.isCreation, Code.isGuard, Code.isCaller, Code.cUnits]; cases fr <;> rfl)
/-- between two turns: what stood stands -/
structure Nap (s s' : Shared) : Prop where
  os : s'.os = s.os
  bare : AllBare s'.gens
  size : s.gens.size ≤ s'.gens.size
  keep : ∀ b o, s.heap.get? b = some o → s'.heap.get? b = some o
theorem inv_nap {X : Cx} {pins : List (Addr × Obj)} {σ : L2.St} {H : Hp} {s s' : Shared} (I : Inv X pins σ H s) (n : Nap s s') : Inv X pins σ H s' :=
  I.call' (ch := []) n.os (Un.kept n.keep) (I.hok.kept n.keep) n.bare fun b hb => absurd hb (by simp)
/-- what a turn begins with -/
structure AtTurn (G : Cx) (a : Addr) (ob : Obj) (g : Nat) (fp : List Addr) (tn : Nat → Heap → Prop) (σ : L2.St) (i : Nat) (H : Hp) (s : Shared) : Prop where
  inv : Inv G [(a, ob)] σ H s
  tn : tn i s.heap
  no : ∀ b ∈ fp, H b = none
  g : g < s.gens.size
/-- what a turn asks -/
def TurnW (J : It) (gg : TG) (tt : TT) (te : TE) (vs : List Nat) (σ : L2.St) (W : Nat → Nat → Hp → Prop) (Q : VK) (stop : Bool) : Prop := ∀ i m H, W i m H →
  (J.stop i H ∧ Q (.bl (!stop)) H) ∨ (J.go i H ∧ ∃ Nx : Hp → Prop, (∀ H', Nx H' → ∃ m', m' < m ∧ W (i + 1) m' H') ∧ ∀ x H', J.yld i H x H' → gg x (wipe σ vs) H' fun σ2 H2 => wipe σ2 vs = wipe σ vs ∧ tt σ2 H2 fun b H3 =>
    if b = true then te σ2 H3 fun y H4 => ∃ k, y = .bl k ∧ if k = stop then Q (.bl stop) H4 else Nx H4 else Nx H3)
/-- what is handed out, what is left at the end -/
def GnY (G : Cx) (a : Addr) (ob : Obj) (g : Nat) (fp : List Addr) (tn : Nat → Heap → Prop) (σ : L2.St) (W : Nat → Nat → Hp → Prop) (Q : VK) (stop : Bool) : Protocol := fun n _ v s kap =>
  (v = .bool stop ∧ ∃ σ' H', Inv G [(a, ob)] σ' H' s ∧ Q (.bl stop) H') ∨ (v = .bool (!stop) ∧ ∃ i m H', m < n ∧ AtTurn G a ob g fp tn σ i H' s ∧ W i m H' ∧ ∀ s', Nap s s' → kap (.send .none) s')
def GnR (G : Cx) (a : Addr) (ob : Obj) (σ : L2.St) (Q : VK) (stop : Bool) : GenEnd := fun _ _ r s => r = .ok .next ∧ ∃ H', Inv G [(a, ob)] σ H' s ∧ Q (.bl (!stop)) H'
theorem not_stop {k stop : Bool} (h : ¬ k = stop) : k = !stop := by
  cases k <;> cases stop <;> first | rfl | exact absurd rfl h
theorem gsz_thn {α : Type} {M : Model} {A : Around} {s : Shared} {t : Sem α} {Q Q' : α → Shared → Prop} {E : Value → Shared → Prop} {n : Nat} (hn : n ≤ s.gens.size) (h : wpAny M A t Q (fun _ _ => False) s) (k : ∀ a s', n ≤ s'.gens.size → Q a s' → Q' a s') : wpAny M A t Q' E s :=
  GenW.wpAny_gsz hn (wpAny_mono h (fun a s' q z => k a s' z q) fun _ _ z => False.elim z)
section
variable {G : Cx} {AS : Around} {elt tg iter : Expr} {ifs : List Expr} {scope : Scope} {pos : Pos} {it a : Addr} {ob : Obj} {g : Nat} {fp : List Addr} {tn : Nat → Heap → Prop} {J : It} {gg : TG} {tt : TT} {te : TE} {vs : List Nat} {σ : L2.St} {W : Nat → Nat → Hp → Prop} {Q : VK} {stop : Bool}
theorem seg_turns (ho : AS.deeper G.env = G.A) (hx : G.xe = fun _ _ => False) (hc : G.calm = true) (hpn : G.pn = []) (T : Turn G.prog G.w G.K tg J fp it tn) (hex : ∀ b ∈ fp, b ∈ G.ex) (hab : ∀ b ∈ fp, a ≠ b) (hco : G.env.scope.isCoroutine = false) (pg : PG G tg gg) (pt : PTs G ifs tt) (pe : PE G elt te)
    (turn : TurnW J gg tt te vs σ W Q stop) : ∀ (m n i : Nat) (H : Hp) (s₀ s : Shared), m < n → AtTurn G a ob g fp tn (wipe σ vs) i H s → W i m H →
      Seg (model G.prog G.w) AS (GnR G a ob (wipe σ vs) Q stop) (GnY G a ob g fp tn (wipe σ vs) W Q stop) n s₀ (.compLoop (.GeneratorExp elt [⟨tg, iter, ifs, 0⟩] scope pos) 0 (.ref it) .none G.env)
        ((model G.prog G.w).den (.compLoop (.GeneratorExp elt [⟨tg, iter, ifs, 0⟩] scope pos) 0 (.ref it) .none G.env)) [] s := by
  intro m
  induction m using Nat.strongRecOn with
  | ind m ih =>
    intro n i H s₀ s hmn at0 w
    have fpk : ∀ {σ' : L2.St} {H' : Hp} {s' : Shared}, Inv G [(a, ob)] σ' H' s' → (∀ b ∈ fp, H' b = none) → ∀ b ∈ fp, FpOk G [(a, ob)] H' b := fun {σ' H' s'} I' no b hb =>
      ⟨no b hb, (I'.ok.exf b (hex b hb)).1, I'.ok.exfs b (hex b hb), .inl (hex b hb), fun x c e => (I'.ok.exf b (hex b hb)).2 x c e, fun p hp => by
        rw [hpn] at hp
        rw [List.mem_singleton.mp (show p ∈ [(a, ob)] from hp)]
        exact hab b hb⟩
    show Seg _ AS _ _ _ s₀ _ ((compTurn (.GeneratorExp elt [⟨tg, iter, ifs, 0⟩] scope pos) 0 (.ref it) .none G.env).onRaise (leaving G.env)) [] s
    rw [compTurn_gen, Sem.onRaise_eq_wrap]
    refine seg_bind_wrap (wpAny_standAt ?_)
    rcases turn i m H w with ⟨st, q⟩ | ⟨go, Nx, hNx, step⟩
    · refine seg_bind_wrap ?_
      rw [over_gen, ho]
      have td := T.done G rfl rfl rfl hc i [(a, ob)] s (wipe σ vs) H (fun _ _ => False) at0.inv (fpk at0.inv at0.no) at0.tn st
      refine thnF td fun r s1 ⟨hr, I1⟩ => ?_
      subst hr
      exact seg_end (.ok .next) ⟨rfl, H, I1, q⟩
    · refine seg_bind_wrap ?_
      rw [over_gen, ho]
      have ti := T.item G rfl rfl rfl hc i [(a, ob)] s (wipe σ vs) H (fun _ _ => False) at0.inv (fpk at0.inv at0.no) at0.tn go
      refine gsz_thn (Nat.succ_le_of_lt at0.g) ti fun r s1 g1 ⟨u, hr, h1⟩ => ?_
      subst hr
      refine seg_bind_wrap ?_
      rw [over_gen, ho]
      refine gsz_thn g1 h1 fun _ s2 g2 ⟨x, H2, I2, r2, y2, t2, n2⟩ => ?_
      have I2' := I2.pinned (fpk I2 n2) (T.obj _ _ t2)
      refine seg_bind_wrap ?_
      rw [over_gen, ho]
      have pgr := pg.run _ s2 _ H2 x u _ I2' r2 (step x H2 y2)
      rw [hx] at pgr
      refine gsz_thn g2 pgr fun _ s3 g3 ⟨σ3, H3, I3, w3, q3⟩ => ?_
      refine seg_bind_wrap ?_
      rw [over_gen, ho]
      have ptr := pt.run _ s3 σ3 H3 _ I3 q3
      rw [hx] at ptr
      refine gsz_thn g3 ptr fun b s4 g4 ⟨H4, I4, q4⟩ => ?_
      -- the end of a turn that goes on
      have fin : ∀ {s' : Shared} {H' : Hp}, Inv G ([(a, ob)] ++ pinsAt fp s2.heap) σ3 H' s' → g + 1 ≤ s'.gens.size → AtTurn G a ob g fp tn (wipe σ vs) (i + 1) H' s' := fun {s' H'} I' gs => by
        have pin' : ∀ b ∈ fp, ∀ o, s2.heap.get? b = some o → s'.heap.get? b = some o ∧ H' b = none := fun b hb o e =>
          let z := I'.pin (b, o) (List.mem_append_right _ (List.mem_append_right _ (mem_pinsAt hb e)))
          ⟨z.1, z.2.1⟩
        have hl : (wipe σ vs).length = σ3.length := by rw [← w3, wipe_length]
        refine ⟨(I'.unpinned (pins := [(a, ob)])).weak hl (fun j v e => ?_), T.keep _ _ _ t2 fun b hb o e => (pin' b hb o e).1, fun b hb => ?_, gs⟩
        · rw [← w3] at e
          exact (wipe_some e).1
        · obtain ⟨o, e, _⟩ := T.obj _ _ t2 b hb
          exact (pin' b hb o e).2
      cases b with
      | false =>
        simp only [Bool.false_eq_true, if_false] at q4 ⊢
        obtain ⟨m', hm, w'⟩ := hNx _ q4
        exact seg_again rfl (ih m' hm n (i + 1) H4 s₀ s4 (by omega) (fin I4 g4) w')
      | true =>
        simp only [if_true] at q4 ⊢
        obtain ⟨n', rfl⟩ : ∃ n', n = n' + 1 := ⟨n - 1, by omega⟩
        have hy : ∀ v, yieldOut G.env v = yieldValue v := fun v => by simp only [yieldOut, hco, Bool.false_eq_true, if_false]
        simp only [hy]
        rw [Sem.bind_eq_wrap', Sem.bind_eq_wrap', Sem.wrap_wrap, Sem.wrap_wrap]
        refine seg_wrap ?_
        rw [over_gen, ho]
        have per := pe.run _ s4 σ3 H4 _ I4 q4
        rw [hx] at per
        refine gsz_thn g4 per fun v s5 g5 ⟨yv, H5, I5, r5, k, ek, q5⟩ => ?_
        subst ek
        obtain rfl : v = .bool k := r5
        refine seg_at (seg_yield rfl rfl rfl ?_)
        by_cases hk : k = stop
        · rw [if_pos hk] at q5
          exact .inl ⟨by rw [hk], σ3, H5, I5.unpinned (pins := [(a, ob)]), q5⟩
        · rw [if_neg hk] at q5
          obtain ⟨m', hm, w'⟩ := hNx _ q5
          refine .inr ⟨congrArg Value.bool (not_stop hk), i + 1, m', H5, by omega, fin I5 g5, w', fun s'' nap => ?_⟩
          have f5 := fin I5 g5
          exact seg_again rfl (ih m' hm n' (i + 1) H5 s'' s'' (by omega) ⟨inv_nap f5.inv nap, T.keep _ _ _ f5.tn fun b _ o e => nap.keep b o e, f5.no, Nat.lt_of_lt_of_le f5.g nap.size⟩ w')
end

section
variable {G : Cx} {AS : Around} {elt tg iter : Expr} {ifs : List Expr} {scope : Scope} {pos : Pos} {it a : Addr} {ob : Obj} {g : Nat} {fp : List Addr} {tn : Nat → Heap → Prop} {J : It} {gg : TG} {tt : TT} {te : TE} {vs : List Nat} {σ : L2.St} {W : Nat → Nat → Hp → Prop} {Q : VK} {stop : Bool}
theorem seg_begin (ho : AS.deeper G.env = G.A) (hx : G.xe = fun _ _ => False) (hc : G.calm = true) (hpn : G.pn = []) (T : Turn G.prog G.w G.K tg J fp it tn) (hex : ∀ b ∈ fp, b ∈ G.ex) (hab : ∀ b ∈ fp, a ≠ b) (hco : G.env.scope.isCoroutine = false) (pg : PG G tg gg) (pt : PTs G ifs tt) (pe : PE G elt te)
    (turn : TurnW J gg tt te vs σ W Q stop) (m n : Nat) (H : Hp) (s₀ s : Shared) (hmn : m < n) (at0 : AtTurn G a ob g fp tn (wipe σ vs) 0 H s) (w : W 0 m H) :
      Seg (model G.prog G.w) AS (GnR G a ob (wipe σ vs) Q stop) (GnY G a ob g fp tn (wipe σ vs) W Q stop) n s₀ (.compStart (.GeneratorExp elt [⟨tg, iter, ifs, 0⟩] scope pos) 0 (.ref it) .none G.env)
        ((model G.prog G.w).den (.compStart (.GeneratorExp elt [⟨tg, iter, ifs, 0⟩] scope pos) 0 (.ref it) .none G.env)) [] s := by
  have loop := seg_turns (iter := iter) (scope := scope) (pos := pos) ho hx hc hpn T hex hab hco pg pt pe turn m n 0 H s₀ s hmn at0 w
  show Seg _ AS _ _ _ s₀ _ ((compStart (.GeneratorExp elt [⟨tg, iter, ifs, 0⟩] scope pos) 0 (.ref it) .none G.env).onRaise (leaving G.env)) [] s
  unfold compStart
  rw [Sem.onRaise_eq_wrap]
  show Seg _ AS _ _ _ s₀ _ ((ask >>= _).wrap _ _ _ _) [] s
  refine seg_bind_wrap (wpAny_askSetting ?_)
  split
  · exact seg_again rfl loop
  · first
      | exact seg_bind_wrap (wpAny_rule (seg_bind_wrap (wpAny_standAt (seg_bind_wrap (T.self _ 0 s _ _ at0.tn (seg_again rfl loop))))))
      | (refine seg_bind_wrap (wpAny_rule ?_); show Seg _ AS _ _ _ s₀ _ ((standAt iter.pos >>= _).wrap _ _ _ _) [] s; exact seg_bind_wrap (wpAny_standAt (seg_bind_wrap (T.self _ 0 s _ _ at0.tn (seg_again rfl loop)))))
/-- the generator at a, to be asked at most n times more -/
structure Rdy (M : Model) (AS : Around) (R : GenEnd) (Y : Protocol) (a : Addr) (ob : Obj) (g n : Nat) (s : Shared) : Prop where
  at' : s.heap.get? a = some ob
  lim : s.heap.NoLimit
  st : ∃ gs, s.gens[g]? = some gs ∧ ∀ s', Nap s s' → gs.Goes M AS R Y n (.send .none) s'
theorem nap_trans {s s1 s2 : Shared} (x : Nap s s1) (y : Nap s1 s2) : Nap s s2 := ⟨y.os.trans x.os, y.bare, Nat.le_trans x.size y.size, fun b o e => y.keep b o (x.keep b o e)⟩
theorem nap_gen {s : Shared} {g : Nat} {gs : GenState} (hb : AllBare s.gens) (h : gs.bare = true) : Nap s (s.setGen g gs) := by
  refine ⟨rfl, ?_, by simp [Shared.setGen], fun b o e => e⟩
  intro y hy
  obtain ⟨i, hi, rfl⟩ := Array.mem_iff_getElem.mp hy
  have hi' : i < s.gens.size := by simpa [Shared.setGen] using hi
  by_cases e : g = i
  · subst e
    have : (s.setGen g gs).gens[g] = gs := by simp [Shared.setGen]
    rw [this]
    exact h
  · have q : (s.setGen g gs).gens[i]? = some s.gens[i] := by
      show (s.gens.setIfInBounds g gs)[i]? = _
      rw [Array.getElem?_setIfInBounds_ne e, Array.getElem?_eq_getElem hi']
    rw [Array.getElem?_eq_getElem hi] at q
    rw [Option.some.inj q]
    exact hb _ (Array.getElem_mem hi')
theorem set_self {s : Shared} {g : Nat} {gs : GenState} (h : g < s.gens.size) : (s.setGen g gs).gens[g]? = some gs := by
  simp [Shared.setGen, h]
/-- all( .. ): the walk over the generator -/
theorem all_turns {A : Around} {Rr : Result → Shared → Prop} (hh : A.handled = none) (hroom : A.depth < recursionLimit) (hg : ∀ h : Heap, h.get? a = some ob → h.IsGen a g)
    (fin : ∀ b s' σ' H', Inv G [(a, ob)] σ' H' s' → Q (.bl b) H' → Rr (.ok (.ret (.bool b))) s') : ∀ (n : Nat) (s : Shared), AllBare s.gens →
      Rdy (model G.prog G.w) A.in1.in1 (GnR G a ob (wipe σ vs) Q false) (GnY G a ob g fp tn (wipe σ vs) W Q false) a ob g n s → codeAny (model G.prog G.w) A (.builtin "all.loop" ⟨[.ref a], []⟩) Rr s := by
  intro n
  induction n with
  | zero =>
    intro s hb rdy
    obtain ⟨gs, hgs, hgo⟩ := rdy.st
    refine codeAny_builtin F.entry_all_loop ?_
    rw [Around.under_plainId F.plain_all_loop _]
    show wpAny _ A.in1 (pyNext (.ref a) >>= _) _ _ s
    refine wpAny_bind (wpAny_pyNext_genexpQ (A := A.in1) (P := fun _ _ s₁ => ∃ H', Inv G [(a, ob)] (wipe σ vs) H' s₁ ∧ Q (.bl (!false)) H') (Y := GnY G a ob g fp tn (wipe σ vs) W Q false) (n := 0) hh rdy.lim hroom (hg _ rdy.at') hgs (hgo _ (nap_gen hb rfl)) (fun v s₁ gs' hb' hv => ?_) fun s₁ hp h' hk => ?_)
    · rcases hv with ⟨rfl, σ', H', I', q'⟩ | ⟨_, i, m, H', hm, _⟩
      · refine wpAny_bind (wpAny_holding (wpAny_truthy_bool ?_))
        refine wpAny_bind (wpAny_letGo ?_)
        simp only [Bool.false_eq_true, if_false]
        refine wpAny_bind (wpAny_rule (wpAny_pure ?_))
        exact fin false _ σ' H' (inv_nap I' (nap_gen I'.bare hb')) q'
      · exact absurd hm (Nat.not_lt_zero _)
    · obtain ⟨H', I', q'⟩ := hp
      refine wpAny_bind (wpAny_rule (wpAny_pure ?_))
      exact fin true _ _ H' (inv_nap I' (nap_trans (nap_gen (gs := .finished) I'.bare rfl) ⟨rfl, (nap_gen (gs := .finished) I'.bare rfl).bare, Nat.le_refl _, hk⟩)) q'
  | succ n ih =>
    intro s hb rdy
    obtain ⟨gs, hgs, hgo⟩ := rdy.st
    refine codeAny_builtin F.entry_all_loop ?_
    rw [Around.under_plainId F.plain_all_loop _]
    show wpAny _ A.in1 (pyNext (.ref a) >>= _) _ _ s
    refine wpAny_bind (wpAny_pyNext_genexpQ (A := A.in1) (P := fun _ _ s₁ => ∃ H', Inv G [(a, ob)] (wipe σ vs) H' s₁ ∧ Q (.bl (!false)) H') (Y := GnY G a ob g fp tn (wipe σ vs) W Q false) (n := n + 1) hh rdy.lim hroom (hg _ rdy.at') hgs (hgo _ (nap_gen hb rfl)) (fun v s₁ gs' hb' hv => ?_) fun s₁ hp h' hk => ?_)
    · rcases hv with ⟨rfl, σ', H', I', q'⟩ | ⟨rfl, i, m, H', hm, at1, w1, kap⟩
      · refine wpAny_bind (wpAny_holding (wpAny_truthy_bool ?_))
        refine wpAny_bind (wpAny_letGo ?_)
        simp only [Bool.false_eq_true, if_false]
        refine wpAny_bind (wpAny_rule (wpAny_pure ?_))
        exact fin false _ σ' H' (inv_nap I' (nap_gen I'.bare hb')) q'
      · refine wpAny_bind (wpAny_holding (wpAny_truthy_bool ?_))
        refine wpAny_bind (wpAny_letGo ?_)
        simp only [Bool.not_false, if_true]
        have n1 := nap_gen (g := g) at1.inv.bare hb'
        have J1 := inv_nap at1.inv n1
        refine wpAny_pure ⟨plainId_quiet F.plain_all_loop _, ih _ n1.bare ⟨(J1.pin (a, ob) (List.mem_append_right _ List.mem_cons_self)).1, J1.nolimit, gs', set_self at1.g, fun s' nap => kap s' (nap_trans n1 nap)⟩⟩
    · obtain ⟨H', I', q'⟩ := hp
      refine wpAny_bind (wpAny_rule (wpAny_pure ?_))
      exact fin true _ _ H' (inv_nap I' (nap_trans (nap_gen (gs := .finished) I'.bare rfl) ⟨rfl, (nap_gen (gs := .finished) I'.bare rfl).bare, Nat.le_refl _, hk⟩)) q'
/-- any( .. ): the walk over the generator -/
theorem any_turns {A : Around} {Rr : Result → Shared → Prop} (hh : A.handled = none) (hroom : A.depth < recursionLimit) (hg : ∀ h : Heap, h.get? a = some ob → h.IsGen a g)
    (fin : ∀ b s' σ' H', Inv G [(a, ob)] σ' H' s' → Q (.bl b) H' → Rr (.ok (.ret (.bool b))) s') : ∀ (n : Nat) (s : Shared), AllBare s.gens →
      Rdy (model G.prog G.w) A.in1.in1 (GnR G a ob (wipe σ vs) Q true) (GnY G a ob g fp tn (wipe σ vs) W Q true) a ob g n s → codeAny (model G.prog G.w) A (.builtin "any.loop" ⟨[.ref a], []⟩) Rr s := by
  intro n
  induction n with
  | zero =>
    intro s hb rdy
    obtain ⟨gs, hgs, hgo⟩ := rdy.st
    refine codeAny_builtin F.entry_any_loop ?_
    rw [Around.under_plainId F.plain_any_loop _]
    show wpAny _ A.in1 (pyNext (.ref a) >>= _) _ _ s
    refine wpAny_bind (wpAny_pyNext_genexpQ (A := A.in1) (P := fun _ _ s₁ => ∃ H', Inv G [(a, ob)] (wipe σ vs) H' s₁ ∧ Q (.bl (!true)) H') (Y := GnY G a ob g fp tn (wipe σ vs) W Q true) (n := 0) hh rdy.lim hroom (hg _ rdy.at') hgs (hgo _ (nap_gen hb rfl)) (fun v s₁ gs' hb' hv => ?_) fun s₁ hp h' hk => ?_)
    · rcases hv with ⟨rfl, σ', H', I', q'⟩ | ⟨_, i, m, H', hm, _⟩
      · refine wpAny_bind (wpAny_holding (wpAny_truthy_bool ?_))
        refine wpAny_bind (wpAny_letGo ?_)
        simp only [if_true]
        refine wpAny_bind (wpAny_rule (wpAny_pure ?_))
        exact fin true _ σ' H' (inv_nap I' (nap_gen I'.bare hb')) q'
      · exact absurd hm (Nat.not_lt_zero _)
    · obtain ⟨H', I', q'⟩ := hp
      refine wpAny_bind (wpAny_rule (wpAny_pure ?_))
      exact fin false _ _ H' (inv_nap I' (nap_trans (nap_gen (gs := .finished) I'.bare rfl) ⟨rfl, (nap_gen (gs := .finished) I'.bare rfl).bare, Nat.le_refl _, hk⟩)) q'
  | succ n ih =>
    intro s hb rdy
    obtain ⟨gs, hgs, hgo⟩ := rdy.st
    refine codeAny_builtin F.entry_any_loop ?_
    rw [Around.under_plainId F.plain_any_loop _]
    show wpAny _ A.in1 (pyNext (.ref a) >>= _) _ _ s
    refine wpAny_bind (wpAny_pyNext_genexpQ (A := A.in1) (P := fun _ _ s₁ => ∃ H', Inv G [(a, ob)] (wipe σ vs) H' s₁ ∧ Q (.bl (!true)) H') (Y := GnY G a ob g fp tn (wipe σ vs) W Q true) (n := n + 1) hh rdy.lim hroom (hg _ rdy.at') hgs (hgo _ (nap_gen hb rfl)) (fun v s₁ gs' hb' hv => ?_) fun s₁ hp h' hk => ?_)
    · rcases hv with ⟨rfl, σ', H', I', q'⟩ | ⟨rfl, i, m, H', hm, at1, w1, kap⟩
      · refine wpAny_bind (wpAny_holding (wpAny_truthy_bool ?_))
        refine wpAny_bind (wpAny_letGo ?_)
        simp only [if_true]
        refine wpAny_bind (wpAny_rule (wpAny_pure ?_))
        exact fin true _ σ' H' (inv_nap I' (nap_gen I'.bare hb')) q'
      · refine wpAny_bind (wpAny_holding (wpAny_truthy_bool ?_))
        refine wpAny_bind (wpAny_letGo ?_)
        simp only [Bool.not_true, Bool.false_eq_true, if_false]
        have n1 := nap_gen (g := g) at1.inv.bare hb'
        have J1 := inv_nap at1.inv n1
        refine wpAny_pure ⟨plainId_quiet F.plain_any_loop _, ih _ n1.bare ⟨(J1.pin (a, ob) (List.mem_append_right _ List.mem_cons_self)).1, J1.nolimit, gs', set_self at1.g, fun s' nap => kap s' (nap_trans n1 nap)⟩⟩
    · obtain ⟨H', I', q'⟩ := hp
      refine wpAny_bind (wpAny_rule (wpAny_pure ?_))
      exact fin false _ _ H' (inv_nap I' (nap_trans (nap_gen (gs := .finished) I'.bare rfl) ⟨rfl, (nap_gen (gs := .finished) I'.bare rfl).bare, Nat.le_refl _, hk⟩)) q'
end

/-- all(elt for tg in iter if ..) (stop: false), any(..) (stop: true) -/
def tGen (P : Addr) (wi : TI) (gg : TG) (tt : TT) (te : TE) (vs : List Nat) (stop : Bool) : TE := fun σ H Q => wi σ H fun J H1 => GxR.TabG H1 P ∧ ∀ H2, GxR.Tabbed P H1 H2 → ∃ W : Nat → Nat → Hp → Prop, (∃ m, W 0 m H2) ∧ TurnW J gg tt te vs σ W Q stop
theorem rm_gen {k : Nat} {A : Around} {env : Env} (hr : Rm (k + 1) A) : Rm k (A.in1.in1.deeper env) :=
  ⟨⟨hr.rm.hd, by have := hr.rm.dp; show A.depth + 1 + 3 * k + 5 < _; omega, by have := hr.rm.un; show A.units + 1 + 1 + 3 + 16 * k + 200 < _; omega⟩, hr.gd⟩
theorem frames_gen {A : Around} {env : Env} {l : List Env} (h : A.frames = some l) : (A.in1.in1.deeper env).frames = some (env :: l) := by
  show Option.map _ A.frames = _
  rw [h]
  rfl
section
variable {X : Cx} {pins : List (Addr × Obj)} {σ : L2.St} {H : Hp} {s : Shared}
theorem gen_eval {c P : Addr} {elt tg iter : Expr} {ifs : List Expr} {gpos : Pos} {scope : Scope} {own : List (Str × Nat)} {wi : TI} {gg : TG} {tt : TT} {te : TE} {k : Nat} {stop : Bool} {Q : VK} {Q' : Value → Shared → Prop}
    (hr : Rm (k + 1) X.A) (TB : GxR.TabB X.base X.mg c P) (hcode : X.env.code = .ref c) (hc : X.calm = true) (hN : X.N.Nodup) (ok : GenOk X.N X.env.scope scope own) (hi : PI X tg iter wi)
    (hg : ∀ (s : Shared) (H : Hp) (C : Addr) (cd : Value) (A : Around) (fp : List Addr), Rm k A → PG (gx X s H (gEnv X scope C cd) A fp) tg gg)
    (ht : ∀ (s : Shared) (H : Hp) (C : Addr) (cd : Value) (A : Around) (fp : List Addr), Rm k A → PTs (gx X s H (gEnv X scope C cd) A fp) ifs tt)
    (he : ∀ (s : Shared) (H : Hp) (C : Addr) (cd : Value) (A : Around) (fp : List Addr), Rm k A → PE (gx X s H (gEnv X scope C cd) A fp) elt te)
    (hs : ∀ x, genFold iter X.env x = pure x) (I : Inv X pins σ H s) (h : tGen P wi gg tt te (own.map (·.2)) stop σ H Q)
    (hQ : ∀ (G : Cx) (a : Addr) (ob : Obj) (g n : Nat) (fp : List Addr) (tn : Nat → Heap → Prop) (W : Nat → Nat → Hp → Prop) (s5 : Shared), (∀ h : Heap, h.get? a = some ob → h.IsGen a g) → AllBare s5.gens →
      Rdy (model X.prog X.w) X.A.in1.in1 (GnR G a ob (wipe σ (own.map (·.2))) Q stop) (GnY G a ob g fp tn (wipe σ (own.map (·.2))) W Q stop) a ob g n s5 → G.prog = X.prog → G.w = X.w →
      (∀ σ' H' s', Inv G [(a, ob)] σ' H' s' → Inv X pins σ H' s') → Q' (.ref a) s5) :
    wpAny (model X.prog X.w) X.A (eval (.GeneratorExp elt [⟨tg, iter, ifs, 0⟩] scope gpos) X.env) Q' X.xe s := by
  refine wpAny_GeneratorExp_make ok.co (closure_ok (gen_free I ok)) ok.noc ok.dot ok.b.kind (by have := hr.rm.dp; omega) ?_ hs
  refine thn (hi.run pins s σ H _ I h) fun xv s1 h1 => thn h1 fun itv s2 h2 => ?_
  obtain ⟨it, fp, tn, J, H2, e, I2, T, st2, f2, ⟨ps, hP, tr⟩, q⟩ := h2
  subst e
  have hPs : s2.heap.get? P = some { cls := .none, data := .fields ps } := I2.hok P _ hP
  have cd2 : PySem.W.CodeHd s2.heap c P := TB.code.keeps fun b u e => I2.bk b u e
  have cont : ∀ (code : Value) (h3 : Heap) (tk : Nat) (more : Array Value), Heap.ExtBut P s2.heap h3 → s2.heap.objs.size ≤ h3.objs.size → h3.get? P = some { cls := .none, data := .fields (ps ++ more) } → TriplesOk (ps ++ more).toList →
      wpAny (model X.prog X.w) X.A (builtinsFor X.env.globals X.env.builtins) (fun bi s₄ => ∀ h', h'.Ns s₄.heap.objs.size (fun y => if y = ".0" then some (.ref it) else none) → Heap.SameBut s₄.heap.objs.size (s₄.heap.push { cls := .type "frame", data := .dict #[] }) h' →
          Q' (.ref h'.objs.size) { s₄ with
            gens := s₄.gens.push (.fresh (.compStart (.GeneratorExp elt [⟨tg, iter, ifs, 0⟩] scope gpos) 0 (.ref it) .none (genEnv scope (cloFrom X.env.cells scope.names []) s₄.heap.objs.size code bi X.env))),
            toks := s₄.toks + 1 + 1 + 1,
            heap := h'.push { cls := .type "generator", data := .fields #[.int s₄.gens.size 0, .str "<genexpr>" (s₄.toks + 1), .str (X.env.qual ++ "<genexpr>") (s₄.toks + 1 + 1)] } }) X.xe { s2 with heap := h3, toks := tk } := by
    intro code h3 tk more hx hsz hP3 tr3
    obtain ⟨bm, ob0, e1, e2, e3, e4, e5, e6, e7, e8⟩ := TB.bm
    have kp : ∀ b u, b ≠ P → s2.heap.get? b = some u → h3.get? b = some u := fun b u hb e => hx b u hb e
    refine wpAny_builtinsFor (m := X.mg) (by rw [I2.ok.glob]; exact (I2.mod.glob.keeps I2.bk).extBut hx TB.gP) e1 e2 (kp _ _ e4 (I2.bk _ _ e5)) e6 e7 e8 ?_
    intro h' hn' hs'
    have I3 : Inv X pins σ (upd H2 P (.tbl (ps ++ more))) { s2 with heap := h3, gens := s2.gens, drawn := s2.drawn, toks := tk } := GxR.inv_tab I2 hP kp hP3 I2.bare
    have hH3 : GxR.Tabbed P H2 (upd H2 P (.tbl (ps ++ more))) := ⟨⟨ps ++ more, upd_same, tr3⟩, fun b hb => upd_ne hb⟩
    obtain ⟨W, ⟨m0, w0⟩, turn⟩ := q _ hH3
    generalize upd H2 P (.tbl (ps ++ more)) = H3 at I3 hH3 w0
    have nP : ∀ b, H2 b = none → b ≠ P := fun b e z => by rw [z, hP] at e; cases e
    have f3 : ∀ b ∈ fp, FpOk X pins H3 b ∧ b < h3.objs.size := fun b hb => by
      obtain ⟨o, eo, _⟩ := T.obj _ _ st2 b hb
      refine ⟨⟨?_, (f2 b hb).2⟩, Nat.lt_of_lt_of_le (Heap.lt_size eo) hsz⟩
      rw [hH3.2 b (nP b (f2 b hb).1)]
      exact (f2 b hb).1
    have st3 : tn 0 h3 := T.keep _ _ _ st2 fun b hb o e => kp b o (nP b (f2 b hb).1) e
    show Q' (.ref h'.objs.size) _
    generalize hob : ({ cls := .type "generator", data := .fields #[.int s2.gens.size 0, .str "<genexpr>" (tk + 1), .str (X.env.qual ++ "<genexpr>") (tk + 1 + 1)] } : Obj) = ob
    have hsz' : h'.objs.size = h3.objs.size + 1 := by rw [hs'.1, Heap.size_push]
    have keep' : ∀ b o, h3.get? b = some o → h'.get? b = some o := fun b o e => hs'.extBut b o (Nat.ne_of_lt (Heap.lt_size e)) (Heap.get?_push_of_some _ e)
    have keep5 : ∀ b o, h3.get? b = some o → (h'.push ob).get? b = some o := fun b o e => Heap.get?_push_of_some _ (keep' b o e)
    generalize hcode5 : Code.compStart (.GeneratorExp elt [⟨tg, iter, ifs, 0⟩] scope gpos) 0 (.ref it) .none (gEnv X scope h3.objs.size code) = cs
    generalize hz : ({ s2 with heap := h'.push ob, gens := s2.gens.push (.fresh cs), toks := tk + 1 + 1 + 1 } : Shared) = z
    have zh : z.heap = h'.push ob := by rw [← hz]
    have zg : z.gens = s2.gens.push (.fresh cs) := by rw [← hz]
    have zo : z.os = s2.os := by rw [← hz]
    have zb : AllBare z.gens := by rw [zg]; exact I2.bare.push rfl
    have I4 := gen_start (code := code) (A := X.A.in1.in1.deeper (gEnv X scope h3.objs.size code)) (z := z) I3 ok hN f3 hr.rm.hd (frames_gen I3.ok.frames) zo zb (fun b o e => by rw [zh]; exact keep5 b o e) (by rw [zh]; exact hn'.push _)
    have ha : z.heap.get? h'.objs.size = some ob := by rw [zh]; exact Heap.get?_push_size _ (by rw [← hob]; rfl)
    have hna : H3 h'.objs.size = none := I3.hok.fresh (by show h3.objs.size ≤ _; omega)
    have I5 : Inv (gx X { s2 with heap := h3, gens := s2.gens, drawn := s2.drawn, toks := tk } H3 (gEnv X scope h3.objs.size code) (X.A.in1.in1.deeper (gEnv X scope h3.objs.size code)) fp) [(h'.objs.size, ob)] (wipe σ (own.map (·.2))) H3 z := I4.pins_of fun p hp => by
      rw [List.mem_singleton.mp hp]
      refine ⟨ha, hna, ?_, fun hf => ?_, fun v e => ?_⟩
      · show h'.objs.size ≠ h3.objs.size
        omega
      · rcases List.mem_cons.mp (I3.stkSub _ hf) with e | e
        · have := I3.lt
          have e : h'.objs.size = X.env.locals := e
          have this : X.env.locals < h3.objs.size := this
          have : h3.objs.size < h'.objs.size := by omega
          rw [e] at this
          exact absurd (Nat.lt_trans this ‹X.env.locals < h3.objs.size›) (Nat.lt_irrefl _)
        · exact I3.nofs (show h3.objs.size ≤ h'.objs.size by omega) e
      · rw [← hob] at e
        cases e
    have hgen : ∀ h : Heap, h.get? h'.objs.size = some ob → h.IsGen h'.objs.size s2.gens.size := fun h e => by
      subst hob
      exact ⟨_, _, _, e, rfl, rfl, rfl⟩
    have nsz : s2.gens.size < z.gens.size := by rw [zg, Array.size_push]; exact Nat.lt_succ_self _
    have back : ∀ (σ' : L2.St) (H' : Hp) (s' : Shared), Inv (gx X { s2 with heap := h3, gens := s2.gens, drawn := s2.drawn, toks := tk } H3 (gEnv X scope h3.objs.size code) (X.A.in1.in1.deeper (gEnv X scope h3.objs.size code)) fp) [(h'.objs.size, ob)] σ' H' s' → Inv X pins σ H' s' := fun σ' H' s' I' =>
      I3.call' (ch := fp) I'.os I'.base I'.hok I'.bare fun b hb => ⟨(f3 b hb).1.2.2.2.1, (f3 b hb).1.2.1, (f3 b hb).1.2.2.2.2.1, (f3 b hb).1.2.2.2.2.2⟩
    have pg := hg { s2 with heap := h3, gens := s2.gens, drawn := s2.drawn, toks := tk } H3 h3.objs.size code _ fp (rm_gen (env := gEnv X scope h3.objs.size code) hr)
    have pt := ht { s2 with heap := h3, gens := s2.gens, drawn := s2.drawn, toks := tk } H3 h3.objs.size code _ fp (rm_gen (env := gEnv X scope h3.objs.size code) hr)
    have pe := he { s2 with heap := h3, gens := s2.gens, drawn := s2.drawn, toks := tk } H3 h3.objs.size code _ fp (rm_gen (env := gEnv X scope h3.objs.size code) hr)
    have start : ∀ s', Nap z s' → (GenState.fresh cs).Goes (model X.prog X.w) X.A.in1.in1 (GnR (gx X { s2 with heap := h3, gens := s2.gens, drawn := s2.drawn, toks := tk } H3 (gEnv X scope h3.objs.size code) (X.A.in1.in1.deeper (gEnv X scope h3.objs.size code)) fp) h'.objs.size ob (wipe σ (own.map (·.2))) Q stop)
        (GnY (gx X { s2 with heap := h3, gens := s2.gens, drawn := s2.drawn, toks := tk } H3 (gEnv X scope h3.objs.size code) (X.A.in1.in1.deeper (gEnv X scope h3.objs.size code)) fp) h'.objs.size ob s2.gens.size fp tn (wipe σ (own.map (·.2))) W Q stop) (m0 + 1) (.send .none) s' := fun s' nap => by
      refine ⟨rfl, ?_⟩
      rw [← hcode5]
      exact seg_begin (G := gx X { s2 with heap := h3, gens := s2.gens, drawn := s2.drawn, toks := tk } H3 (gEnv X scope h3.objs.size code) (X.A.in1.in1.deeper (gEnv X scope h3.objs.size code)) fp) (AS := X.A.in1.in1) (iter := iter) (scope := scope) (pos := gpos) rfl rfl hc rfl T (fun b hb => hb) (fun b hb z => absurd (f3 b hb).2 (by rw [← z]; exact Nat.not_lt.mpr (by rw [hsz']; exact Nat.le_succ _))) ok.co pg pt pe turn m0 (m0 + 1) H3 s' s' (Nat.lt_succ_self _)
        ⟨inv_nap I5 nap, T.keep _ _ _ st3 fun b _ o e => nap.keep b o (by rw [zh]; exact keep5 b o e), fun b hb => (f3 b hb).1.1, Nat.lt_of_lt_of_le nsz nap.size⟩ w0
    exact hQ _ h'.objs.size ob s2.gens.size (m0 + 1) fp tn W z hgen zb ⟨ha, I5.nolimit, _, by rw [zg]; exact Array.getElem?_push_size .., start⟩ rfl rfl back
  refine ⟨I2.nolimit, ?_⟩
  cases hf : codeAmong gpos ps.toList with
  | none =>
    refine wpAny_genexprCodeX hcode (cd2.code hPs tr) (cd2.tab hPs) hf fun c' h' tk hx hge hlt hco' _ htab' _ => ?_
    obtain ⟨o1, vs', f1, tf, fl, tg', inF, tx, tt', op, _, _, _, _, _, _, _, _, _, htr, _⟩ := hco'
    exact cont _ h' tk _ hx (Nat.le_trans hge (Nat.le_of_lt hlt)) htab'.2 htr
  | some cv =>
    refine wpAny_genexprCode_hit hcode (cd2.code hPs tr) hf ?_
    exact cont cv s2.heap s2.toks #[] (Heap.ExtBut.refl _ _) (Nat.le_refl _) (by simpa using hPs) (by simpa using tr)
theorem pe_allG {c P : Addr} {elt tg iter : Expr} {ifs : List Expr} {p pos gpos : Pos} {scope : Scope} {own : List (Str × Nat)} {wi : TI} {gg : TG} {tt : TT} {te : TE} {k : Nat}
    (hr : Rm (k + 1) X.A) (TB : GxR.TabB X.base X.mg c P) (hcode : X.env.code = .ref c) (hc : X.calm = true) (hN : X.N.Nodup) (ok : GenOk X.N X.env.scope scope own) (hn : Gl X "all") (hm : X.mg "all" = none) (hi : PI X tg iter wi)
    (hg : ∀ (s : Shared) (H : Hp) (C : Addr) (cd : Value) (A : Around) (fp : List Addr), Rm k A → PG (gx X s H (gEnv X scope C cd) A fp) tg gg)
    (ht : ∀ (s : Shared) (H : Hp) (C : Addr) (cd : Value) (A : Around) (fp : List Addr), Rm k A → PTs (gx X s H (gEnv X scope C cd) A fp) ifs tt)
    (he : ∀ (s : Shared) (H : Hp) (C : Addr) (cd : Value) (A : Around) (fp : List Addr), Rm k A → PE (gx X s H (gEnv X scope C cd) A fp) elt te)
    (hs : ∀ x, genFold iter X.env x = pure x := by intro _; rfl) (hb : bootBuiltins "all" = some (.builtin "all") := by decide +kernel)
    (hst : starEach [.GeneratorExp elt [⟨tg, iter, ifs, 0⟩] scope gpos] X.env = (false, eval (.GeneratorExp elt [⟨tg, iter, ifs, 0⟩] scope gpos) X.env) :: starEach [] X.env := by rfl) :
    PE X (.Call (.Name "all" p) [.GeneratorExp elt [⟨tg, iter, ifs, 0⟩] scope gpos] [] pos) (tGen P wi gg tt te (own.map (·.2)) false) := by
  refine ⟨fun pins s σ H Q I h => ?_⟩
  refine wpAny_Call_Name_kw (ld_blt I hn hm hb ?_)
  refine PyProof.Rows.callWith_builtin1 ?_ hst (by rfl)
  rw [hst]
  show wpAny _ _ (spliced ((false, eval (.GeneratorExp elt [⟨tg, iter, ifs, 0⟩] scope gpos) X.env) :: backTo pos (starEach [] X.env))) _ _ s
  refine Calls.spliced_cons (gen_eval hr TB hcode hc hN ok hi hg ht he hs I h fun G a ob g n fp tn W s5 hgen hb5 rdy ep ew back => ?_)
  refine Calls.spliced_nil ?_
  refine call_function_tree F.kind_all F.plain_all F.entry_all (F.args_all1 _) ?_
  unfold Builtin.«all»
  refine wpAny_bind (m := oneArg "all" _) (wpAny_pure ?_)
  refine wpAny_bind (wpAny_pyIter_gen (hgen _ rdy.at') ?_)
  refine wpAny_pure ⟨plainId_quiet F.plain_all_loop _, ?_⟩
  rw [← ep, ← ew] at rdy ⊢
  exact all_turns hr.rm.hd (by have := hr.rm.dp; omega) hgen (fun b s' σ' H' I' q => ⟨.bl b, H', back σ' H' s' I', rfl, q⟩) n s5 hb5 rdy
theorem pe_anyG {c P : Addr} {elt tg iter : Expr} {ifs : List Expr} {p pos gpos : Pos} {scope : Scope} {own : List (Str × Nat)} {wi : TI} {gg : TG} {tt : TT} {te : TE} {k : Nat}
    (hr : Rm (k + 1) X.A) (TB : GxR.TabB X.base X.mg c P) (hcode : X.env.code = .ref c) (hc : X.calm = true) (hN : X.N.Nodup) (ok : GenOk X.N X.env.scope scope own) (hn : Gl X "any") (hm : X.mg "any" = none) (hi : PI X tg iter wi)
    (hg : ∀ (s : Shared) (H : Hp) (C : Addr) (cd : Value) (A : Around) (fp : List Addr), Rm k A → PG (gx X s H (gEnv X scope C cd) A fp) tg gg)
    (ht : ∀ (s : Shared) (H : Hp) (C : Addr) (cd : Value) (A : Around) (fp : List Addr), Rm k A → PTs (gx X s H (gEnv X scope C cd) A fp) ifs tt)
    (he : ∀ (s : Shared) (H : Hp) (C : Addr) (cd : Value) (A : Around) (fp : List Addr), Rm k A → PE (gx X s H (gEnv X scope C cd) A fp) elt te)
    (hs : ∀ x, genFold iter X.env x = pure x := by intro _; rfl) (hb : bootBuiltins "any" = some (.builtin "any") := by decide +kernel)
    (hst : starEach [.GeneratorExp elt [⟨tg, iter, ifs, 0⟩] scope gpos] X.env = (false, eval (.GeneratorExp elt [⟨tg, iter, ifs, 0⟩] scope gpos) X.env) :: starEach [] X.env := by rfl) :
    PE X (.Call (.Name "any" p) [.GeneratorExp elt [⟨tg, iter, ifs, 0⟩] scope gpos] [] pos) (tGen P wi gg tt te (own.map (·.2)) true) := by
  refine ⟨fun pins s σ H Q I h => ?_⟩
  refine wpAny_Call_Name_kw (ld_blt I hn hm hb ?_)
  refine PyProof.Rows.callWith_builtin1 ?_ hst (by rfl)
  rw [hst]
  show wpAny _ _ (spliced ((false, eval (.GeneratorExp elt [⟨tg, iter, ifs, 0⟩] scope gpos) X.env) :: backTo pos (starEach [] X.env))) _ _ s
  refine Calls.spliced_cons (gen_eval hr TB hcode hc hN ok hi hg ht he hs I h fun G a ob g n fp tn W s5 hgen hb5 rdy ep ew back => ?_)
  refine Calls.spliced_nil ?_
  refine call_function_tree F.kind_any F.plain_any F.entry_any (F.args_any1 _) ?_
  unfold Builtin.«any»
  refine wpAny_bind (m := oneArg "any" _) (wpAny_pure ?_)
  refine wpAny_bind (wpAny_pyIter_gen (hgen _ rdy.at') ?_)
  refine wpAny_pure ⟨plainId_quiet F.plain_any_loop _, ?_⟩
  rw [← ep, ← ew] at rdy ⊢
  exact any_turns hr.rm.hd (by have := hr.rm.dp; omega) hgen (fun b s' σ' H' I' q => ⟨.bl b, H', back σ' H' s' I', rfl, q⟩) n s5 hb5 rdy
end
end Wg

/-! Wagon, part 31: tables of code objects: what stays, how such readings go on, defs that hold a generator expression, the end. -/
namespace Wg
open PySem PySem.Spec PyProof.Rows L2

/-- the tables at L are tables -/
def Tabs (L : List Addr) (H : Hp) : Prop := ∀ p ∈ L, GxR.TabG H p
/-- all but the tables at L is kept, and these stay tables -/
structure KT (L : List Addr) (H H' : Hp) : Prop where
  k : Keep L H H'
  t : Tabs L H → Tabs L H'
theorem KT.refl (L : List Addr) (H : Hp) : KT L H H := ⟨Keep.refl _ _, id⟩
theorem KT.trans {L : List Addr} {H H1 H2 : Hp} (a : KT L H H1) (b : KT L H1 H2) : KT L H H2 := ⟨a.k.trans b.k, fun h => b.t (a.t h)⟩
theorem Tabs.keep0 {L : List Addr} {H H' : Hp} (h : Tabs L H) (k : Keep [] H H') : Tabs L H' := fun p hp => let ⟨ps, e, t⟩ := h p hp; ⟨ps, k _ _ nin0 e, t⟩
theorem KT.of0 {L : List Addr} {H H' : Hp} (k : Keep [] H H') : KT L H H' := ⟨k.all, fun h => h.keep0 k⟩
theorem Tabs.nin {L : List Addr} {H : Hp} (h : Tabs L H) {b : Addr} {o : HO} (e : H b = some o) (n : ∀ ps, o ≠ .tbl ps) : b ∉ L := fun z => by
  obtain ⟨ps, e', _⟩ := h b z
  rw [e] at e'
  exact n ps (Option.some.inj e')
theorem Tabs.ninN {L : List Addr} {H : Hp} (h : Tabs L H) {b : Addr} (e : H b = none) : b ∉ L := fun z => by
  obtain ⟨ps, e', _⟩ := h b z
  rw [e] at e'
  cases e'
theorem Tabs.noTup {L : List Addr} {H : Hp} (h : Tabs L H) : ∀ a xs, Tup H a xs → a ∉ L := fun a xs ⟨ob, e, _⟩ => h.nin e fun ps z => nomatch z
theorem Tabs.lst {L : List Addr} {H : Hp} (h : Tabs L H) {a : Addr} {xs : List V} (e : H a = some (.lst xs)) : a ∉ L := h.nin e fun ps z => nomatch z
theorem Tabs.dK {L : List Addr} {H : Hp} (h : Tabs L H) {a : Addr} {xs : List (Key × V)} (e : H a = some (.dK xs)) : a ∉ L := h.nin e fun ps z => nomatch z
/-- a new cell is changed -/
theorem KT.past {L : List Addr} {H H1 H2 : Hp} {d : Addr} (k1 : KT L H H1) (k2 : Keep [d] H1 H2) (n : H d = none) (ht : Tabs L H) : KT L H H2 := by
  have t1 := k1.t ht
  refine ⟨fun b o hb e => k2 b o (nin1 (ne_of_none e n)) (k1.k b o hb e), fun _ p hp => ?_⟩
  obtain ⟨ps, e, tr⟩ := t1 p hp
  refine ⟨ps, k2 _ _ (nin1 fun z => ?_) e, tr⟩
  rw [z] at hp
  exact ht.ninN n hp
theorem kt_tab {L : List Addr} {P : Addr} {H H' : Hp} (h : P ∈ L) (t : GxR.Tabbed P H H') : KT L H H' := by
  refine ⟨fun b o hb e => (t.2 b fun z => hb (z ▸ h)).trans e, fun ht p hp => ?_⟩
  by_cases z : p = P
  · rw [z]
    exact t.1
  · obtain ⟨ps, e, tr⟩ := ht p hp
    exact ⟨ps, (t.2 p z).trans e, tr⟩
theorem Tabs.sqT {K : PySem.W.Frag} {L : List Addr} {H H' : Hp} {a : Addr} {xs : List V} (ht : Tabs L H) (k : KT L H H') (h : SqT K H a xs) : SqT K H' a xs := by
  rcases h with (h | ⟨o, h⟩) | h
  · exact .inl (.inl (k.k _ _ (ht.nin h fun ps z => nomatch z) h))
  · exact .inl (.inr ⟨o, k.k _ _ (ht.nin h fun ps z => nomatch z) h⟩)
  · exact .inr h
theorem Tabs.sqL {K : PySem.W.Frag} {L : List Addr} {H H' : Hp} {a : Addr} {xs : List V} (ht : Tabs L H) (k : KT L H H') (h : SqL K H a xs) : SqL K H' a xs := by
  rcases h with (h | ⟨o, h⟩) | h
  · exact .inl (.inl (k.k _ _ (ht.nin h fun ps z => nomatch z) h))
  · exact .inl (.inr ⟨o, k.k _ _ (ht.nin h fun ps z => nomatch z) h⟩)
  · exact .inr h
mutual
theorem dp_kt {K : PySem.W.Frag} {L : List Addr} {H H' : Hp} (ht : Tabs L H) (k : KT L H H') : ∀ {v : V} {d : PyData}, Dp K H v d → Dp K H' v d
  | _, _, .non => .non
  | _, _, .bl b => .bl b
  | _, _, .int i => .int i
  | _, _, .str x => .str x
  | _, _, .lst h a => .lst (ht.sqL k h) (dps_kt ht k a)
  | _, _, .tup h a => .tup (ht.sqT k h) (dps_kt ht k a)
theorem dps_kt {K : PySem.W.Frag} {L : List Addr} {H H' : Hp} (ht : Tabs L H) (k : KT L H H') : ∀ {vs : List V} {ds : List PyData}, DpAll K H vs ds → DpAll K H' vs ds
  | _, _, .nil => .nil
  | _, _, .cons h r => .cons (dp_kt ht k h) (dps_kt ht k r)
end

/-! ### readings -/
def GU (K : PySem.W.Frag) (P : Addr) (g : TG) (tt : TT) (te : TE) (vs : List Nat) (stop : Bool) (σ : L2.St) (Q : VK) (x : V) (H1 : Hp) : Prop := iU K (tC x) σ H1 fun J H1 => GxR.TabG H1 P ∧ ∀ H2, GxR.Tabbed P H1 H2 → ∃ W : Nat → Nat → Hp → Prop, (∃ m, W 0 m H2) ∧ TurnW J g tt te vs σ W Q stop
theorem e_genU {K : PySem.W.Frag} {P : Addr} {tl : TE} {g : TG} {tt : TT} {te : TE} {vs : List Nat} {stop : Bool} {σ : L2.St} {H : Hp} {Q : VK} : tGen P (iU K tl) g tt te vs stop σ H Q ↔ tl σ H (GU K P g tt te vs stop σ Q) := Iff.rfl
/-- of the turns: n of them, turn i's truth f i -/
theorem gen_of {L : List Addr} {n : Nat} {it : Nat → V} {J : It} {g : TG} {tt : TT} {te : TE} {vs : List Nat} {σ : L2.St} {H2 : Hp} {Q : VK} {stop : Bool} (f : Nat → Bool)
    (hgo : ∀ i H, i < n → KT L H2 H → J.go i H) (hy : ∀ i H x H', i < n → KT L H2 H → J.yld i H x H' → x = it i ∧ H' = H) (hst : ∀ H, KT L H2 H → J.stop n H)
    (hs : ∀ i H (R : VK) (R0 : Hp → Prop), i < n → KT L H2 H → (∀ H4, KT L H H4 → R (.bl (f i)) H4) → g (it i) (wipe σ vs) H fun σ2 H3 => wipe σ2 vs = wipe σ vs ∧ tt σ2 H3 fun b H4 => if b = true then te σ2 H4 R else R0 H4)
    (q : ∀ H', KT L H2 H' → Q (.bl (if stop = true then (List.range n).any f else (List.range n).all f)) H') : ∃ W : Nat → Nat → Hp → Prop, (∃ m, W 0 m H2) ∧ TurnW J g tt te vs σ W Q stop := by
  refine ⟨fun i m H => m = n - i ∧ i ≤ n ∧ KT L H2 H ∧ ∀ j, j < i → f j = !stop, ⟨n, by omega, by omega, KT.refl _ _, fun _ h => by omega⟩, ?_⟩
  rintro i m H ⟨rfl, hi, k, hf⟩
  by_cases hlt : i < n
  · refine .inr ⟨hgo i H hlt k, fun H' => KT L H2 H' ∧ ∀ j, j < i + 1 → f j = !stop, fun H' h => ⟨n - (i + 1), by omega, rfl, hlt, h⟩, fun x H' y => ?_⟩
    obtain ⟨ex, eh⟩ := hy i H x H' hlt k y
    rw [ex, eh]
    refine hs i H _ _ hlt k fun H4 k4 => ⟨f i, rfl, ?_⟩
    by_cases e : f i = stop
    · rw [if_pos e]
      have q4 := q H4 (k.trans k4)
      cases stop with
      | true =>
        rw [if_pos rfl, List.any_eq_true.mpr ⟨i, List.mem_range.mpr hlt, e⟩] at q4
        exact q4
      | false =>
        rw [if_neg Bool.false_ne_true] at q4
        have : (List.range n).all f = false := by
          rw [List.all_eq_false]
          exact ⟨i, List.mem_range.mpr hlt, by rw [e]; decide⟩
        rw [this] at q4
        exact q4
    · rw [if_neg e]
      refine ⟨k.trans k4, fun j hj => ?_⟩
      rcases Nat.lt_succ_iff_lt_or_eq.mp hj with h | h
      · exact hf j h
      · rw [h]
        exact not_stop e
  · have e : i = n := by omega
    subst e
    refine .inl ⟨hst H k, ?_⟩
    have q4 := q H k
    cases stop with
    | true =>
      rw [if_pos rfl] at q4
      have : (List.range i).any f = false := by
        rw [List.any_eq_false]
        intro j hj
        rw [hf j (List.mem_range.mp hj)]
        decide
      rw [this] at q4
      exact q4
    | false =>
      rw [if_neg Bool.false_ne_true] at q4
      have : (List.range i).all f = true := by
        rw [List.all_eq_true]
        intro j hj
        rw [hf j (List.mem_range.mp hj)]
        rfl
      rw [this] at q4
      exact q4
theorem range_any {α : Type} {rs : List α} {f : α → Bool} {d : Bool} : (List.range rs.length).any (fun i => (rs[i]?.map f).getD d) = rs.any f := by
  rw [Bool.eq_iff_iff, List.any_eq_true, List.any_eq_true]
  constructor
  · rintro ⟨i, hi, e⟩
    have hi := List.mem_range.mp hi
    rw [List.getElem?_eq_getElem hi] at e
    exact ⟨_, List.getElem_mem hi, e⟩
  · rintro ⟨x, hx, e⟩
    obtain ⟨i, hi, rfl⟩ := List.getElem_of_mem hx
    exact ⟨i, List.mem_range.mpr hi, by rw [List.getElem?_eq_getElem hi]; exact e⟩
theorem range_all {α : Type} {rs : List α} {f : α → Bool} {d : Bool} : (List.range rs.length).all (fun i => (rs[i]?.map f).getD d) = rs.all f := by
  rw [Bool.eq_iff_iff, List.all_eq_true, List.all_eq_true]
  constructor
  · intro h x hx
    obtain ⟨i, hi, rfl⟩ := List.getElem_of_mem hx
    have := h i (List.mem_range.mpr hi)
    rw [List.getElem?_eq_getElem hi] at this
    exact this
  · intro h i hi
    have hi := List.mem_range.mp hi
    rw [List.getElem?_eq_getElem hi]
    exact h _ (List.getElem_mem hi)
theorem each_got {α β : Type} {R : α → β → Prop} : ∀ {vs : List α} {rs : List β} {i : Nat} {v : α}, PySem.W.EachIs R vs rs → vs[i]? = some v → ∃ r, rs[i]? = some r ∧ R v r
  | _, _, _, _, .nil, e => by simp at e
  | _, _, 0, _, .cons (b := q) h _, e => by
    simp at e
    subst e
    exact ⟨q, rfl, h⟩
  | _, _, i + 1, _, .cons _ t, e => by
    obtain ⟨q, h1, h2⟩ := each_got (i := i) t (by simpa using e)
    exact ⟨q, by simpa using h1, h2⟩
def aaB {α : Type} (stop : Bool) (f : α → Bool) (rs : List α) : Bool := if stop = true then rs.any f else rs.all f
/-- over a list or a tuple of things, wherever it stands -/
theorem g_GE {K : PySem.W.Frag} {L : List Addr} {P : Addr} {α : Type} {RR : Hp → V → α → Prop} {g : TG} {tt : TT} {te : TE} {vs : List Nat} {stop : Bool} {σ : L2.St} {H1 : Hp} {Q : VK} {a : Addr} {xs : List V} {rs : List α} (f : α → Bool) (hT : Tabs L H1) (hP : P ∈ L)
    (hx : SqL K H1 a xs ∨ SqT K H1 a xs) (he : PySem.W.EachIs (RR H1) xs rs) (hk : ∀ H' x r, RR H1 x r → KT L H1 H' → RR H' x r)
    (hs : ∀ (i : Nat) (x : V) (r : α) (H : Hp) (R : VK) (R0 : Hp → Prop), rs[i]? = some r → KT L H1 H → Tabs L H → RR H x r → (∀ H4, KT L H H4 → R (.bl (f r)) H4) → g x (wipe σ vs) H fun σ2 H3 => wipe σ2 vs = wipe σ vs ∧ tt σ2 H3 fun b H4 => if b = true then te σ2 H4 R else R0 H4)
    (q : ∀ H', KT L H1 H' → Q (.bl (aaB stop f rs)) H') : GU K P g tt te vs stop σ Q (.ref a) H1 := by
  have hl := he.length
  have tail : ∀ {J : It} {H2 : Hp}, GxR.Tabbed P H1 H2 → (∀ i H, i < xs.length → KT L H2 H → J.go i H) → (∀ i H x H', i < xs.length → KT L H2 H → J.yld i H x H' → x = xs.getD i .non ∧ H' = H) → (∀ H, KT L H2 H → J.stop xs.length H) →
      ∃ W : Nat → Nat → Hp → Prop, (∃ m, W 0 m H2) ∧ TurnW J g tt te vs σ W Q stop := fun {J H2} t h1 h2 h3 => by
    have k12 := kt_tab hP t
    refine gen_of (L := L) (n := xs.length) (it := fun i => xs.getD i .non) (fun i => (rs[i]?.map f).getD stop) h1 h2 h3 (fun i H R R0 hi k hR => ?_) fun H' k => ?_
    · obtain ⟨r, e1, e2⟩ := each_got he (List.getElem?_eq_getElem hi)
      have e3 : xs.getD i .non = xs[i] := by rw [List.getD_eq_getElem?_getD, List.getElem?_eq_getElem hi]; rfl
      show g (xs.getD i .non) _ _ _
      rw [e3]
      rw [e1] at hR
      exact hs i _ r H R R0 e1 (k12.trans k) ((k12.trans k).t hT) (hk _ _ _ e2 (k12.trans k)) hR
    · rw [hl, range_any, range_all]
      exact q H' (k12.trans k)
  have kk : ∀ {H2 H}, GxR.Tabbed P H1 H2 → KT L H2 H → KT L H1 H := fun t k => (kt_tab hP t).trans k
  rcases hx with hx | hx
  · exact .inl ⟨a, xs, rfl, hx, hT P hP, fun H2 t => tail t (fun i H hi k => ⟨xs, xs[i], hT.sqL (kk t k) hx, List.getElem?_eq_getElem hi⟩) (fun i H x H' hi k y => ⟨by rw [List.getD_eq_getElem?_getD, y.2 xs (hT.sqL (kk t k) hx)]; rfl, y.1⟩) fun H k => ⟨xs, hT.sqL (kk t k) hx, Nat.le_refl _⟩⟩
  · exact .inr (.inl ⟨a, xs, rfl, hx, hT P hP, fun H2 t => tail t (fun i H hi k => ⟨xs, xs[i], hT.sqT (kk t k) hx, List.getElem?_eq_getElem hi⟩) (fun i H x H' hi k y => ⟨by rw [List.getD_eq_getElem?_getD, y.2 xs (hT.sqT (kk t k) hx)]; rfl, y.1⟩) fun H k => ⟨xs, hT.sqT (kk t k) hx, Nat.le_refl _⟩⟩)
/-- over a text's signs -/
theorem g_GS {K : PySem.W.Frag} {L : List Addr} {P : Addr} {g : TG} {tt : TT} {te : TE} {vs : List Nat} {stop : Bool} {σ : L2.St} {H1 : Hp} {Q : VK} {z : Str} (f : Nat → Bool) (hT : Tabs L H1) (hP : P ∈ L)
    (hs : ∀ c H (R : VK) (R0 : Hp → Prop), c ∈ z.cps.toList → KT L H1 H → Tabs L H → (∀ H4, KT L H H4 → R (.bl (f c)) H4) → g (.str ⟨#[c]⟩) (wipe σ vs) H fun σ2 H3 => wipe σ2 vs = wipe σ vs ∧ tt σ2 H3 fun b H4 => if b = true then te σ2 H4 R else R0 H4)
    (q : ∀ H', KT L H1 H' → Q (.bl (aaB stop f z.cps.toList)) H') : GU K P g tt te vs stop σ Q (.str z) H1 := by
  refine .inr (.inr ⟨z, rfl, hT P hP, fun H2 t => ?_⟩)
  have k12 := kt_tab hP t
  have sz : z.cps.size = z.cps.toList.length := by simp
  refine gen_of (L := L) (n := z.cps.size) (it := fun i => .str ⟨#[z.cps.getD i 0]⟩) (fun i => (z.cps.toList[i]?.map f).getD stop) (fun i H hi k => hi) (fun i H x H' hi k y => ?_) (fun H k => Nat.le_refl _) (fun i H R R0 hi k hR => ?_) fun H' k => ?_
  · obtain ⟨e1, c, e2, e3⟩ := y
    refine ⟨?_, e1⟩
    rw [e3, Array.getD_eq_getD_getElem?, e2]
    rfl
  · have hi' : i < z.cps.toList.length := by rw [← sz]; exact hi
    have e : z.cps.getD i 0 = z.cps.toList[i] := by
      rw [Array.getD_eq_getD_getElem?, ← Array.getElem?_toList, List.getElem?_eq_getElem hi']
      rfl
    rw [List.getElem?_eq_getElem hi'] at hR
    show g (.str ⟨#[z.cps.getD i 0]⟩) _ _ _
    rw [e]
    exact hs _ H R R0 (List.getElem_mem hi') (k12.trans k) ((k12.trans k).t hT) hR
  · rw [sz, range_any, range_all]
    exact q H' (k12.trans k)

/-! ### defs that hold a generator expression -/
section
variable {P : Program} {w : World} {K : PySem.W.Frag} {mg : Str → Option Value} {b : Heap}
theorem keepsT {x qual : Str} {st : Stmt} {f c : Addr} {fd : FuncData} {N ps : List Str} {k : Nat} {sp : Sp} (F : Fun K x qual st f fd) (hc : fd.code = .ref c) (S : FnScope N ps (defScope st))
    (len : ∀ vs H Q E, sp vs H Q E → vs.length = ps.length)
    (body : ∀ (A : Around) (o : List Env) (s : Shared) (H : Hp) (vs : List V) (Q : VK) (E : XK), Rm k (A.deeper (envOfC qual (defScope st) s.heap.objs.size f (.ref c))) → sp vs H Q E →
      ∃ t, PSs (cxOf CX0 P w K mg b N qual (defScope st) f (.ref c) A o s H E).nox (defBody st) t ∧ t { nx := fun _ H' => Q .non H', rt := Q } (start N vs) H) :
    Keeps P w K mg b CX0 (k + 1) f fd ps sp := by
  obtain ⟨oc, od, kV, doc, pm, an, cdv, ct, osl, rfl, lk, hcd⟩ := F.ex
  obtain rfl : cdv = .ref c := hc
  refine ⟨len, fun A o s H g us vs Q E hr e0 hb r hsp => ?_⟩
  have hl := len _ _ _ _ hsp
  have up : ∀ {a : Addr} {ob : Obj}, b.get? a = some ob → s.heap.get? a = some ob := fun {a ob} q => (e0.bs a ob q).1
  have inK : K.In s.heap := e0.mod.kin.keeps fun _ _ q => up q
  have nolim : s.heap.NoLimit := e0.mod.nolimit.keeps fun _ _ q => up q
  have kinds : ∀ y ∈ ps.zip us, (defScope st).names.lookup y.1 = some .local ∨ ((defScope st).names.lookup y.1 = some .cell ∧ ((cellsFrom (s.heap.objs.size + 1) (defScope st).names []).lookup y.1).isSome = true) := by
    rintro ⟨n, v⟩ hy
    have hn := S.par n (List.of_mem_zip hy).1
    exact hn.imp id fun q => ⟨q, PySem.W.cellsFrom_some _ _ _ (.inl q)⟩
  have recd := PySem.W.codeRec_of inK hcd
  refine codeAny_call_function hr.rm.depth (inK _ _ lk) rfl S.co S.gen rfl recd (hb _ _ _ _ ?_)
  refine wpAny_newFunctionEnv_cells S.kind kinds ?_
  intro env he s1 y
  subst he
  refine ⟨nolim.keeps y.toInCall.keep, codeAny_func ?_⟩
  obtain ⟨t, ht, hq⟩ := body A o s H vs Q E (hr.deep _) hsp
  have I := inv_start (CX := CX0) (E := E) S hr.rm.hd e0 hl r y
  refine wpAny_mono (ht.nox.run [] s1 (start N vs) H _ I hq) ?_ fun _ _ q => q
  intro fl s' hs
  match fl, hs with
  | .ret u, hs =>
    obtain ⟨v, σ', H', J, rv, q⟩ := hs
    exact ⟨v, H', J.os, J.bare, J.base, J.hok, rv, q⟩
  | .next, hs =>
    obtain ⟨σ', H', J, q⟩ := hs
    exact ⟨.non, H', J.os, J.bare, J.base, J.hok, rfl, q⟩
  | .brk, hs => exact hs.elim fun _ z => z.elim fun _ y => y.2.elim
  | .cont, hs => exact hs.elim fun _ z => z.elim fun _ y => y.2.elim
end

/-! ### the end, with tables -/
/-- what may be tracked at the beginning: the script, locked, and the tables -/
def OnlyT (L : List Addr) (H : Hp) : Prop := ∀ b, H b = none ∨ (b ∈ L ∧ H b = some (.tbl #[])) ∨ ∃ o xs, H b = some (.frz o (.lst xs))
/-- the table of the code object at c, no object of the module's own -/
def tabIn (K : PySem.W.Frag) (c : Addr) : Option Addr := match K.lookup c with
  | some o => match o.data with
    | .fields vs => match vs[11]? with
      | some (Value.ref P) => if (K.lookup P).isNone then some P else none
      | _ => none
    | _ => none
  | none => none
theorem tabIn_ok {K : PySem.W.Frag} {h : Heap} {c P P' : Addr} (hK : K.In h) (e : tabIn K c = some P) (t : h.TableAt c P' #[]) : P' = P ∧ K.lookup P = none := by
  unfold tabIn at e
  split at e
  · rename_i o lk
    have ho := hK _ _ lk
    obtain ⟨⟨o', vs', e1, _, e3, e4⟩, _⟩ := t
    rw [ho] at e1
    cases e1
    rw [e3] at e
    dsimp only at e
    rw [e4] at e
    dsimp only at e
    split at e
    · rename_i hn
      cases e
      exact ⟨rfl, Option.isNone_iff_eq_none.mp hn⟩
    · cases e
  · cases e
theorem endT {P : Program} {w : World} {K : PySem.W.Frag} {mg mb : Str → Option Value} {k : Nat} {fa a : Addr} {fd : FuncData} {x : Str} {cs : List (Addr × Addr)} {sp : Sp} {s : Shared} {vs : List Value} {ns : List Int}
    (KX : K.In s.heap) (hns : s.heap.Ns mainGlobals mg) (hb : s.heap.Ns builtinsNs mb) (hbb : ∀ x : Str, x ≠ "__name__" → mb x = bootBuiltins x) (hlim : s.heap.NoLimit) (hg : s.gens = #[])
    (tab : ∀ p ∈ cs, s.heap.IsCode p.1 p.2 #[] ∧ s.heap.TableAt p.1 p.2 #[] ∧ K.lookup p.2 = none)
    (hbm : ∃ (bm : Addr) (ob : Obj), mg "__builtins__" = some (.ref bm) ∧ bm ≠ builtinsNs ∧ s.heap.get? bm = some ob ∧ ob.cls = .type "module" ∧ ob.dict = some builtinsNs ∧ ob.data = .plain)
    (ha : s.heap.get? a = some { cls := .type "list", data := .seq vs.toArray }) (hi : IntsAre vs ns) (hl : ns.length ≤ sizeLine) (hr : Rm k callerA)
    (F : ∀ b : Heap, K.In b → b.Ns mainGlobals mg → (∀ p ∈ cs, GxR.TabB b mg p.1 p.2) → Keeps P w K mg b CX0 k fa fd [x] sp) (hbind : ∀ (s : Shared) (u : Value), BindsTo s fd ⟨[u], []⟩ [(x, u)])
    (hsp : ∀ H : Hp, OnlyT (cs.map (·.2)) H → Tabs (cs.map (·.2)) H → SqL K H a (ns.map V.int) → sp [.ref a] H (fun v _ => v = .bl true) fun _ _ _ => False) :
    codeAny (model P w) callerA (.call (.ref fa) ⟨[.ref a], []⟩) (fun r s' => r = .ok (.ret (.bool true)) ∧ OldK s.heap s'.heap ∧ s'.os = s.os ∧ AllBare s'.gens) s := by
  have lenV := hi.length
  have rv := vals_ints hi
  have obT : ∀ b : Addr, b ∈ cs.map (·.2) → s.heap.get? b = some { cls := .none, data := .fields #[] } := fun b hm => by
    obtain ⟨p, hp, rfl⟩ := List.mem_map.mp hm
    exact (tab p hp).2.1.2
  have naT : a ∉ cs.map (·.2) := fun hm => by
    have q := obT a hm
    rw [ha] at q
    have q' := congrArg Obj.data (Option.some.inj q)
    cases q'
  let H0 : Hp := fun b => if b ∈ cs.map (·.2) then some (.tbl #[]) else if b = a ∧ K.lookup a = none then some (.frz { cls := .type "list", data := .seq vs.toArray } (.lst (ns.map V.int))) else none
  have atT : ∀ {b}, b ∈ cs.map (·.2) → H0 b = some (.tbl #[]) := fun hm => if_pos hm
  have only : OnlyT (cs.map (·.2)) H0 := fun b => by
    by_cases h1 : b ∈ cs.map (·.2)
    · exact .inr (.inl ⟨h1, if_pos h1⟩)
    · by_cases h2 : b = a ∧ K.lookup a = none
      · exact .inr (.inr ⟨_, _, (if_neg h1).trans (if_pos h2)⟩)
      · exact .inl ((if_neg h1).trans (if_neg h2))
  have where_ : ∀ b, H0 b ≠ none → b ∈ cs.map (·.2) ∨ (b = a ∧ K.lookup a = none) := fun b n => by
    by_cases h1 : b ∈ cs.map (·.2)
    · exact .inl h1
    · by_cases h2 : b = a ∧ K.lookup a = none
      · exact .inr h2
      · exact absurd ((if_neg h1).trans (if_neg h2)) n
  have tabs : Tabs (cs.map (·.2)) H0 := fun p hp => ⟨#[], atT hp, trivial⟩
  have sq : SqL K H0 a (ns.map V.int) := by
    cases q : K.lookup a with
    | none => exact .inl (.inr ⟨_, (if_neg naT).trans (if_pos ⟨rfl, q⟩)⟩)
    | some o =>
      have e := (KX a o q).symm.trans ha
      obtain rfl := Option.some.inj e
      exact .inr ⟨_, vs.toArray, _, q, rfl, rfl, rfl, by rw [List.size_toArray, lenV]; exact hl, by simpa using rv⟩
  have hok : HOk P w H0 s.heap := fun c u z => by
    rcases where_ c (by rw [z]; exact Option.some_ne_none u) with h | ⟨rfl, h⟩
    · rw [atT h] at z
      cases z
      exact obT c h
    · rw [show H0 c = _ from (if_neg naT).trans (if_pos ⟨rfl, h⟩)] at z
      cases z
      exact ⟨ha, by rw [List.length_map]; exact hl, vs, _, rv, ha⟩
  have stays : ∀ {c : Addr} {o : Obj}, s.heap.get? c = some o → (∀ u n, o.data ≠ .seq u n) → o.data ≠ .fields #[] → H0 c = none := fun {c o} e h1 h2 => by
    match q : H0 c with
    | none => rfl
    | some u =>
      rcases where_ c (by rw [q]; exact Option.some_ne_none u) with h | ⟨rfl, _⟩
      · rw [obT c h] at e
        cases e
        exact (h2 rfl).elim
      · rw [ha] at e
        cases e
        exact (h1 _ _ rfl).elim
  have dictOut : ∀ {c : Addr} {o : Obj} {es : Array DictEntry} {ep : Nat}, s.heap.get? c = some o → o.data = .dict es ep → H0 c = none := fun e d => stays e (fun u n z => by rw [d] at z; cases z) fun z => by rw [d] at z; cases z
  have ns' : ∀ {c : Addr} {m : Str → Option Value}, s.heap.Ns c m → (hidT s.heap H0).Ns c m := fun ⟨o, es, ep, e, d, r⟩ => ⟨o, es, ep, hidT_get e (dictOut e d), d, r⟩
  have kin : K.In (hidT s.heap H0) := fun c o e => by
    refine hidT_get (KX c o e) ?_
    match q : H0 c with
    | none => rfl
    | some u =>
      rcases where_ c (by rw [q]; exact Option.some_ne_none u) with h | ⟨rfl, h⟩
      · obtain ⟨p, hp, rfl⟩ := List.mem_map.mp h
        rw [(tab p hp).2.2] at e
        cases e
      · rw [h] at e
        cases e
  obtain ⟨mc, l1, l2⟩ := hlim
  have M : Mod K mg (hidT s.heap H0) := ⟨kin, ns' hns, ⟨mb, ns' hb, hbb⟩, ⟨mc, ns' l1, l2⟩⟩
  have nG : ∀ {p : Addr}, p ∈ cs.map (·.2) → mainGlobals ≠ p := fun hm z => by
    obtain ⟨o, es, ep, e, d, _⟩ := hns
    rw [z, obT _ hm] at e
    cases e
    cases d
  have TB : ∀ p ∈ cs, GxR.TabB (hidT s.heap H0) mg p.1 p.2 := fun p hp => by
    have hm : p.2 ∈ cs.map (·.2) := List.mem_map.mpr ⟨p, hp, rfl⟩
    refine ⟨?_, ?_, nG hm⟩
    · obtain ⟨o, us, file, tf, flags, tg, inF, text, tt, e1, r1, r2, r3, rest⟩ := PySem.W.CodeHd.of (tab p hp).1 (tab p hp).2.1
      refine ⟨o, us, file, tf, flags, tg, inF, text, tt, hidT_get e1 (stays e1 (fun u n z => ?_) fun z => ?_), r1, r2, r3, rest⟩
      · rw [r2] at z
        cases z
      · rw [r2] at z
        cases z
        simp at r3
    · obtain ⟨bm, ob, b1, b2, b3, b4, b5, b6⟩ := hbm
      refine ⟨bm, ob, b1, b2, fun z => ?_, fun z => ?_, hidT_get b3 (stays b3 (fun u n z => ?_) fun z => ?_), b4, b5, b6⟩
      · obtain ⟨o, es, ep, e, d, _⟩ := hns
        rw [z, e] at b3
        cases b3
        rw [d] at b6
        cases b6
      · rw [z, obT _ hm] at b3
        cases b3
        cases b6
      · rw [b6] at z
        cases z
      · rw [b6] at z
        cases z
  have e0 : Env0 P w K mg (hidT s.heap H0) callerA [] s H0 :=
    ⟨rfl, M, fun c o e => of_hidT e, Nat.le_of_eq (hidT_size _ _), trivial, fun c hc => (List.not_mem_nil hc).elim, hok, .of_eq hg⟩
  have run := (F _ kin (ns' hns) TB).run callerA [] s H0 ⟨[.ref a], []⟩ [.ref a] [.ref a] _ _ hr e0 (hbind s (.ref a)) (.cons rfl .nil) (hsp H0 only tabs sq)
  refine codeAny_mono run fun res s' hq => ?_
  match res, hq with
  | .error e, hq => exact hq.elim
  | .ok .next, hq => exact hq.elim
  | .ok .brk, hq => exact hq.elim
  | .ok .cont, hq => exact hq.elim
  | .ok (.ret u), hq =>
    obtain ⟨v, H', os, bare, un, hok', r', q⟩ := hq
    obtain rfl : v = .bl true := q
    obtain rfl : u = Value.bool true := r'
    have grown : ∀ p ∈ cs, ∃ more : Array Value, s'.heap.get? p.2 = some { cls := .none, data := .fields more } := fun p hp => by
      obtain ⟨more, z⟩ := un.tbls p.2 #[] (atT (List.mem_map.mpr ⟨p, hp, rfl⟩))
      exact ⟨_, hok' p.2 _ z⟩
    have rest : ∀ c o, c ∉ cs.map (·.2) → s.heap.get? c = some o → s'.heap.get? c = some o := fun c o hn e => by
      rcases only c with z | ⟨z, _⟩ | ⟨ob, xs, z⟩
      · exact un.keep c o e z List.not_mem_nil List.not_mem_nil
      · exact absurd z hn
      · have z1 := (hok c _ z).1
        have z2 := (hok' c _ (un.frzs c ob _ z)).1
        exact z2.trans (z1.symm.trans e)
    refine ⟨rfl, ⟨fun c o e => ?_, fun c o e => ?_⟩, os, bare⟩
    · by_cases hm : c ∈ cs.map (·.2)
      · obtain ⟨p, hp, rfl⟩ := List.mem_map.mp hm
        obtain ⟨more, g⟩ := grown p hp
        rw [obT _ hm] at e
        cases e
        exact .inr (.inl ⟨(tab p hp).2.1.isCodeTable, rfl, #[], more, rfl, by rw [Array.empty_append]; exact g⟩)
      · exact .inl (rest c o hm e)
    · by_cases hm : c ∈ cs.map (·.2)
      · obtain ⟨p, hp, rfl⟩ := List.mem_map.mp hm
        obtain ⟨more, g⟩ := grown p hp
        exact ⟨_, g⟩
      · exact ⟨o, rest c o hm e⟩
/-- a def of the text with its code object and that one's table -/
structure TabDef (q : Program) (K : PySem.W.Frag) (mg : Str → Option Value) (t : Str × Addr × Addr) : Prop where
  r : ((recsOf q).any fun e => e.name == t.1) = true
  f : ∃ (fa : Addr) (o : Obj) (fd : FuncData), mg t.1 = some (.ref fa) ∧ K.lookup fa = some o ∧ o.data = .func fd ∧ fd.code = .ref t.2.1
  t : tabIn K t.2.1 = some t.2.2
theorem walk_endT {l : PySem.W.OpenLaw} {n k : Nat} {q : Program} {loose : List Str} {XP : (Str → Option Value) → Heap → Prop} {YP : World → Heap → Prop} {d : DefRec} {K : Params → PySem.W.Frag} {sp : PySem.W.Frag → List Addr → Sp} {x : Str}
    (hn : l.most = some n) (hn2 : n ≤ sizeLine) (hdf : d.params.defaults = []) (hr : Rm k callerA) (hY : ∀ (w : World) (h : Heap), YP w h → (K w.params).In h)
    (F : ∀ (w : World) (mg : Str → Option Value) (fa : Addr) (h : Heap), (K w.params).In h → h.Ns mainGlobals mg → mg d.name = some (.ref fa) →
      ∃ (fd : FuncData) (ts : List (Str × Addr × Addr)), (∀ t ∈ ts, TabDef q (K w.params) mg t) ∧ (∀ (s : Shared) (u : Value), BindsTo s fd ⟨[u], []⟩ [(x, u)]) ∧
        ∀ b : Heap, (K w.params).In b → b.Ns mainGlobals mg → (∀ t ∈ ts, GxR.TabB b mg t.2.1 t.2.2) → Keeps l.prog w (K w.params) mg b CX0 k fa fd [x] (sp (K w.params) (ts.map fun t => t.2.2)))
    (hsp : ∀ (K : PySem.W.Frag) (L : List Addr) (H : Hp) (a : Addr) (ns : List Int), ns.length ≤ n → OnlyT L H → Tabs L H → SqL K H a (ns.map V.int) → sp K L [.ref a] H (fun v _ => v = .bl true) fun _ _ _ => False) :
    PySem.W.WalkO q loose XP YP l.row.toRowW d [] (fun f vs => PySem.call f vs) := by
  refine Att.attach_call hn hdf ?_
  intro w s₀ s₁ mg mb fa o pm cd doc a vs ns G Y ho hd hcd hmg hobj hints hlen hg
  have kin := hY w _ Y
  obtain ⟨fd, ts, hts, hb, hF⟩ := F w mg fa _ kin G.T.g hmg
  have em : (ts.map fun t => t.2).map (fun p => p.2) = ts.map fun t => t.2.2 := by rw [List.map_map]; rfl
  refine endT (cs := ts.map fun t => t.2) kin G.T.g G.T.b G.T.builtins G.T.nolimit hg (fun p hp => ?_) G.T.bmain hobj hints (Nat.le_trans hlen hn2) hr (fun b h1 h2 h3 => hF b h1 h2 fun t ht => h3 _ (List.mem_map.mpr ⟨t, ht, rfl⟩)) hb fun H hO hT hS => ?_
  · obtain ⟨t, ht, rfl⟩ := List.mem_map.mp hp
    obtain ⟨r, ⟨fa', o1, fd1, m1, k1, d1, c1⟩, tt⟩ := hts t ht
    obtain ⟨dL, hm, hnm⟩ := List.any_eq_true.mp r
    obtain ⟨a', o', fd', c', P', h1, h2, h3, h4, h5, h6⟩ := G.T.tab dL hm
    rw [show dL.name = t.1 from beq_iff_eq.mp hnm, m1] at h1
    cases h1
    have g1 := kin _ _ k1
    rw [g1] at h2
    cases h2
    rw [d1] at h3
    cases h3
    rw [c1] at h4
    cases h4
    obtain ⟨e1, e2⟩ := tabIn_ok kin tt h6
    subst e1
    exact ⟨h5, h6, e2⟩
  · rw [em] at hO hT
    exact hsp _ _ H a ns hlen hO hT hS
theorem Scr.ofT {K : PySem.W.Frag} {L : List Addr} {H : Hp} {a : Addr} {xs : List V} (o : OnlyT L H) (h : SqL K H a xs) : Scr K H a xs := by
  rcases h with (h | h) | h
  · rcases o a with z | ⟨_, z⟩ | ⟨ob, ys, z⟩
    · exact nomatch z.symm.trans h
    · exact nomatch z.symm.trans h
    · exact nomatch z.symm.trans h
  · exact .inl h
  · exact .inr h
theorem Scr.kt {K : PySem.W.Frag} {L : List Addr} {H H' : Hp} {a : Addr} {xs : List V} (h : Scr K H a xs) (ht : Tabs L H) (k : KT L H H') : Scr K H' a xs :=
  h.elim (fun ⟨o, e⟩ => .inl ⟨o, k.k _ _ (ht.nin e fun ps z => nomatch z) e⟩) .inr
theorem Tup.kt {L : List Addr} {H H' : Hp} {a : Addr} {xs : List V} (h : Tup H a xs) (ht : Tabs L H) (k : KT L H H') : Tup H' a xs := h.keep k.k (ht.noTup _ _ h)
end Wg

/-! Wagon, part 32: a text times a number, list of a text, upper; signs. -/
namespace Wg
open PySem PySem.Spec PyProof.Rows L2
section
variable {X : Cx}
/-- text * number -/
def uMulS : R2 := fun x y H Q => ∃ (z : Str) (n : Int), x = .str z ∧ y = .int n ∧ 2 ≤ n ∧ n ≤ 100000 ∧ z.length ≠ 0 ∧ z.length * n.toNat ≤ 1000000 ∧ Q (.str ⟨(List.replicate n.toNat z.cps).foldl (· ++ ·) #[]⟩) H
theorem op_uMulS : OpR X (binaryOp .Mult) uMulS := by
  intro pins s σ H x y v u Q I rx ry h
  obtain ⟨z, n, rfl, rfl, h1, h2, h3, h4, q⟩ := h
  obtain ⟨t, rfl⟩ := rx
  obtain ⟨t', rfl⟩ := ry
  have nn : ¬ n < 1 := by omega
  have n1 : (n == 1 || z.length == 0) = false := by
    rw [Bool.or_eq_false_iff]
    exact ⟨beq_false_of_ne (by omega), beq_false_of_ne h3⟩
  have tl : Builtin.Str.tooLong (z.length * n.toNat) = false := by
    unfold Builtin.Str.tooLong
    exact decide_eq_false (Nat.not_lt.mpr (len_le h4))
  refine PySem.P.mul_str ?_ (fun _ _ => ?_) (fun _ _ => tl) ?_
  · rw [decide_eq_false (by omega), decide_eq_false (by omega)]
    rfl
  · have : z.length ≤ 1000000 := Nat.le_trans (Nat.le_mul_of_pos_right _ (by omega)) h4
    have e : (92233720368547 : Int) ≤ (2 ^ 63 - 1) / n := by
      rw [Int.le_ediv_iff_mul_le (by omega)]
      omega
    omega
  · rw [if_neg nn, if_neg (by rw [n1]; exact Bool.false_ne_true)]
    refine ⟨?_, ⟨.str _, H, I.tok _, ⟨_, rfl⟩, q⟩⟩
    exact PySem.fits_reps tl
def uUpper : V → List V → Hp → VK → Prop := fun x xs H Q => ∃ a, x = .str a ∧ xs = [] ∧ a.length ≤ 5592405 ∧ Q (.str (Txt.upper a)) H
theorem pe_uUpper {o : Expr} {to : TE} {apos pos : Pos} (ho : PE X o to) (hbase : attributeBase o "upper" X.env (eval o X.env) = eval o X.env := by rfl) (hline : (apos.endLine == pos.line) = true := by rfl) :
    PE X (.Call (.Attribute o "upper" apos) [] [] pos) (tM0 uUpper to) := pe_upper ho hbase hline
/-- list(text) -/
def uListZ : List V → Hp → VK → Prop := fun xs H Q => ∃ z : Str, xs = [.str z] ∧ z.length ≤ 1000000 ∧ Mk H (.lst (z.cps.toList.map fun c => .str ⟨#[c]⟩)) Q
theorem call_uListZ (hc : X.calm = true) : CallR X (.type "list") uListZ := by
  intro pins s σ H xs us Q I r h
  obtain ⟨z, rfl, hz, q⟩ := h
  obtain ⟨u, rfl, rx⟩ := vals1 r
  obtain ⟨t, rfl⟩ := rx
  refine call_list_str (I.ok.hd hc) z t (fun h' tk acc c' hk e hi => ?_) (len_le hz)
  have hl : (z.cps.toList.map fun c => V.str ⟨#[c]⟩).length = acc.toList.length := by
    rw [List.length_map, Array.length_toList, Array.length_toList]
    exact hi.1.symm
  refine ⟨.ref s.heap.objs.size, upd H s.heap.objs.size (.lst (z.cps.toList.map fun c => .str ⟨#[c]⟩)), I.laid hk (Nat.le_refl _) ⟨by rw [List.length_map, Array.length_toList]; exact len_le hz, acc.toList, c', ?_, by rw [Array.toArray_toList]; exact e⟩, rfl, q.at _ (I.hok.fresh (Nat.le_refl _))⟩
  refine vals_of_idx _ _ hl.symm fun j u hj => ?_
  obtain ⟨c, t', hc, rfl⟩ := hi.2 j u (by rw [← Array.getElem?_toList]; exact hj)
  refine ⟨.str ⟨#[c]⟩, ?_, ⟨_, rfl⟩⟩
  rw [List.getElem?_map, Array.getElem?_toList, hc]
  rfl
end
end Wg

/-! Wagon, part 33: f-strings, partition, int(text), texts cut, == of texts. -/
namespace Wg
open PySem PySem.Spec PyProof.Rows L2 PySem.W
open Builtin Builtin.Str Builtin.Int
/-- a number below a hundred by two figures -/
def two (n : Nat) : Str := ⟨#[48 + n / 10, 48 + n % 10]⟩
section
variable {prog : Program} {w : World} {A : Around} {E : Value → Shared → Prop} {s : Shared}
theorem field_02 {n : Nat} (hn : n < 60) {t : Tok} {Q : Value → Shared → Prop} (h : ∀ t' k, Q (.str (two n) t') { s with toks := k }) : wpAny (model prog w) A (formatField (.int (n : Nat) t) "02d") Q E s := by
  have c : n = 0 ∨ n = 1 ∨ n = 2 ∨ n = 3 ∨ n = 4 ∨ n = 5 ∨ n = 6 ∨ n = 7 ∨ n = 8 ∨ n = 9 ∨ n = 10 ∨ n = 11 ∨ n = 12 ∨ n = 13 ∨ n = 14 ∨ n = 15 ∨ n = 16 ∨ n = 17 ∨ n = 18 ∨ n = 19 ∨ n = 20 ∨ n = 21 ∨ n = 22 ∨ n = 23 ∨ n = 24 ∨ n = 25 ∨ n = 26 ∨ n = 27 ∨ n = 28 ∨ n = 29 ∨ n = 30 ∨ n = 31 ∨ n = 32 ∨ n = 33 ∨ n = 34 ∨ n = 35 ∨ n = 36 ∨ n = 37 ∨ n = 38 ∨ n = 39 ∨ n = 40 ∨ n = 41 ∨ n = 42 ∨ n = 43 ∨ n = 44 ∨ n = 45 ∨ n = 46 ∨ n = 47 ∨ n = 48 ∨ n = 49 ∨ n = 50 ∨ n = 51 ∨ n = 52 ∨ n = 53 ∨ n = 54 ∨ n = 55 ∨ n = 56 ∨ n = 57 ∨ n = 58 ∨ n = 59 := by omega
  rcases c with rfl | rfl | rfl | rfl | rfl | rfl | rfl | rfl | rfl | rfl | rfl | rfl | rfl | rfl | rfl | rfl | rfl | rfl | rfl | rfl | rfl | rfl | rfl | rfl | rfl | rfl | rfl | rfl | rfl | rfl | rfl | rfl | rfl | rfl | rfl | rfl | rfl | rfl | rfl | rfl | rfl | rfl | rfl | rfl | rfl | rfl | rfl | rfl | rfl | rfl | rfl | rfl | rfl | rfl | rfl | rfl | rfl | rfl | rfl | rfl
  all_goals (refine KXf.field_int (spec' := "02d") rfl (by decide +kernel) (by decide +kernel) ?_ h; kxf_run_i)
end
section
variable {X : Cx}
/-- {x:02d} of a number below sixty -/
def tFmt02 (te : TE) : TE := fun σ H Q => te σ H fun x H1 => ∃ n : Nat, x = .int (n : Nat) ∧ n < 60 ∧ Q (.str (two n)) H1
theorem pe_fmt02 {e sp : Expr} {te : TE} {pos : Pos} (he : PE X e te) (hs : PE X sp (tC (.str "02d"))) : PE X (.FormattedValue e (-1) (some sp) pos) (tFmt02 te) := by
  refine ⟨fun pins s σ H Q I h => ?_⟩
  refine wpAny_FormattedValue_spec (thn (he.run pins s σ H _ I h) fun v s1 hv => ?_)
  obtain ⟨x, H1, I1, r1, n, rfl, hn, q⟩ := hv
  obtain ⟨t, rfl⟩ := r1
  refine thn (hs.run pins s1 σ H1 (fun x H2 => x = .str "02d" ∧ H2 = H1) I1 ⟨rfl, rfl⟩) fun r s2 hr => ?_
  obtain ⟨y, H2, I2, r2, rfl, rfl⟩ := hr
  obtain ⟨t2, rfl⟩ := r2
  exact ⟨_, _, rfl, field_02 hn fun t' k => ⟨.str (two n), H2, I2.tok _, ⟨_, rfl⟩, q⟩⟩
def tJoined (ts : List TE) : TE := fun σ H Q => tJs ts Str.empty σ H fun out H1 => Q (.str out) H1
theorem pe_joinedU {v1 v2 : Expr} {rest : List Expr} {ts : List TE} {pos : Pos} (h : PJ X (v1 :: v2 :: rest) ts) : PE X (.JoinedStr (v1 :: v2 :: rest) pos) (tJoined ts) := pe_joined h
/-- partition -/
def uPartition : V → List V → Hp → VK → Prop := fun x xs H Q => ∃ a b, x = .str a ∧ xs = [.str b] ∧ (b.length == 0) = false ∧ a.length ≤ sizeLine ∧
  ∀ p, H p = none → Q (.ref p) (upd H p (.tup [.str (Txt.partition a b).1, .str (Txt.partition a b).2.1, .str (Txt.partition a b).2.2]))
theorem pe_uPartition {o e : Expr} {to te : TE} {apos pos : Pos} (ho : PE X o to) (he : PE X e te) (hs : starEach [e] X.env = [(false, eval e X.env)] := by rfl) (hbase : attributeBase o "partition" X.env (eval o X.env) = eval o X.env := by rfl) (hline : (apos.endLine == pos.line) = true := by rfl) :
    PE X (.Call (.Attribute o "partition" apos) [e] [] pos) (tM1 uPartition to te) := pe_partition ho he hs hbase hline
/-- int(text) -/
def uIntS : List V → Hp → VK → Prop := fun xs H Q => ∃ a n, xs = [.str a] ∧ PySem.intText? a = some n ∧ a.length ≤ 640 ∧ Q (.int n) H
theorem call_uIntS : CallR X (.type "int") uIntS := call_int_str
end
end Wg

/-! Wagon, part 34: divmod. -/
namespace Wg
open PySem PySem.Spec PyProof.Rows L2
def uDivmod : List V → Hp → VK → Prop := fun xs H Q => ∃ i j, xs = [.int i, .int j] ∧ CDiv i j ∧ ∀ p, H p = none → Q (.ref p) (upd H p (.tup [.int (i / j), .int (i % j)]))
theorem call_uDivmod {X : Cx} : CallR X (.builtin "divmod") uDivmod := call_divmod
end Wg

/-! Wagon, part 35: < of texts. -/
namespace Wg
open PySem PySem.Spec PyProof.Rows L2
def uLtS : V → V → Hp → VK → Prop := fun x y H Q => ∃ i j, x = .str i ∧ y = .str j ∧ Q (.bl (decide (i.cps.toList < j.cps.toList))) H
theorem op_uLtS {X : Cx} : OpR X (compareOp .Lt) uLtS := op_lt_str
end Wg

/-! Wagon, part 36: repr of a tuple of data in which empty dicts may stand, at any depth. -/
namespace Wg
open PySem PySem.Spec PyProof.Rows L2
mutual
/-- data whose lists are the law's own, with empty dicts -/
inductive Dq (K : PySem.W.Frag) (H : Hp) : V → PyData → Prop
  | dp {v : V} {d : PyData} : Dp K H v d → Dq K H v d
  | lst {a : Addr} {xs : List V} {ds : List PyData} : H a = some (.lst xs) → DqAll K H xs ds → Dq K H (.ref a) (.list ds)
  | tup {a : Addr} {xs : List V} {ds : List PyData} : Tup H a xs → DqAll K H xs ds → Dq K H (.ref a) (.tuple ds)
  | dic {a : Addr} : H a = some (.dK []) → Dq K H (.ref a) (.dict [])
inductive DqAll (K : PySem.W.Frag) (H : Hp) : List V → List PyData → Prop
  | nil : DqAll K H [] []
  | cons {v : V} {vs : List V} {d : PyData} {ds : List PyData} : Dq K H v d → DqAll K H vs ds → DqAll K H (v :: vs) (d :: ds)
end
/-- what the heap tells of one value, of a row of them -/
structure Told (P : Program) (w : World) (h : Heap) (v : Value) (d : PyData) : Prop where
  r : ∃ as, Reads h v d as
  k : d.showable = true → d.shown.length ≤ sizeLine → ∃ bs, ReadAtMost h d.depth bs ∧ ReprK P w bs h d.depth v d.shown
structure ToldAll (P : Program) (w : World) (h : Heap) (vs : List Value) (ds : List PyData) : Prop where
  r : ∃ as, ReadsAll h vs ds as
  k : PyData.showableAll ds = true → (∀ t ∈ PyData.shownAll ds, t.length ≤ sizeLine) → ∃ bs, ReadAtMost h (PyData.depthAll ds) bs ∧ ReprAllK P w bs h (PyData.depthAll ds) vs (PyData.shownAll ds)
section
variable {P : Program} {w : World} {h : Heap}
theorem ToldAll.none : ToldAll P w h [] [] := ⟨⟨_, .nil⟩, fun _ _ => ⟨[], (fun _ z => nomatch z), by simp only [PyData.shownAll]; exact .nil⟩⟩
theorem ToldAll.more {v : Value} {vs : List Value} {d : PyData} {ds : List PyData} (a : Told P w h v d) (b : ToldAll P w h vs ds) : ToldAll P w h (v :: vs) (d :: ds) := by
  obtain ⟨as, ra⟩ := a.r
  obtain ⟨bs, rb⟩ := b.r
  refine ⟨⟨_, .cons ra rb⟩, fun hs hz => ?_⟩
  rw [show PyData.showableAll (d :: ds) = (d.showable && PyData.showableAll ds) by simp only [PyData.showableAll], Bool.and_eq_true] at hs
  have es : PyData.shownAll (d :: ds) = d.shown :: PyData.shownAll ds := by simp only [PyData.shownAll]
  have ed : PyData.depthAll (d :: ds) = max d.depth (PyData.depthAll ds) := by simp only [PyData.depthAll]
  rw [es] at hz ⊢
  rw [ed]
  obtain ⟨x, hx, kx⟩ := a.k hs.1 (hz _ List.mem_cons_self)
  obtain ⟨y, hy, ky⟩ := b.k hs.2 fun t ht => hz t (List.mem_cons_of_mem _ ht)
  exact ⟨x ++ y, (hx.mono (Nat.le_max_left _ _)).append (hy.mono (Nat.le_max_right _ _)), .cons ((kx.more fun b hb => List.mem_append_left _ hb).level_le (Nat.le_max_left _ _)) (ky.more_le (fun b hb => List.mem_append_right _ hb) (Nat.le_max_right _ _))⟩
theorem Told.list {a : Addr} {o : Obj} {n : Nat} {its : List Value} {ds : List PyData} (e : h.get? a = some o) (c : o.cls = .type "list") (dd : o.data = .seq its.toArray n) (t : ToldAll P w h its ds) : Told P w h (.ref a) (.list ds) := by
  obtain ⟨as, ra⟩ := t.r
  have r : Reads h (.ref a) (.list ds) (a :: as) := .list e c dd ra
  refine ⟨⟨_, r⟩, fun hs hz => ?_⟩
  have eD : (PyData.list ds).depth = PyData.depthAll ds + 1 := by simp only [PyData.depth]
  have eS : (PyData.list ds).shown = listText (PyData.shownAll ds) := by simp only [PyData.shown]
  rw [eS] at hz ⊢
  obtain ⟨bs, hb, hk⟩ := t.k (by simpa only [PyData.showable] using hs) fun x hx => Nat.le_trans (listText_mem_le hx) hz
  have hna : a ∉ bs := not_mem_of_deeper r (by rw [eD]; omega) hb
  refine ⟨a :: bs, ReadAtMost.cons r (by rw [eD]; omega) hb, ?_⟩
  rw [eD]
  cases its with
  | nil =>
    cases ra
    rw [show PyData.shownAll [] = [] by simp only [PyData.shownAll], listText_nil]
    exact ReprK.listEmpty e c dd
  | cons x l => exact ReprK.list e c dd hna (by simpa using hk.length_eq) fun i y q => hk.item i y (by simpa using q)
theorem Told.tuple {a : Addr} {o : Obj} {n : Nat} {its : List Value} {ds : List PyData} (e : h.get? a = some o) (c : o.cls = .type "tuple") (dd : o.data = .seq its.toArray n) (t : ToldAll P w h its ds) : Told P w h (.ref a) (.tuple ds) := by
  obtain ⟨as, ra⟩ := t.r
  have r : Reads h (.ref a) (.tuple ds) as := .tuple e c dd ra
  refine ⟨⟨_, r⟩, fun hs hz => ?_⟩
  have eD : (PyData.tuple ds).depth = PyData.depthAll ds + 1 := by simp only [PyData.depth]
  have eS : (PyData.tuple ds).shown = tupleText (PyData.shownAll ds) := by simp only [PyData.shown]
  rw [eS] at hz ⊢
  obtain ⟨bs, hb, hk⟩ := t.k (by simpa only [PyData.showable] using hs) fun x hx => Nat.le_trans (tupleText_mem_le hx) hz
  have hna : a ∉ bs := not_mem_of_deeper r (by rw [eD]; omega) hb
  refine ⟨a :: bs, ReadAtMost.cons r (by rw [eD]; omega) hb, ?_⟩
  rw [eD]
  exact ReprK.tuple e c dd hna hk
end
section
variable {X : Cx} {pins : List (Addr × Obj)} {σ : L2.St} {H : Hp} {s : Shared}
theorem told_dp (I : Inv X pins σ H s) {v : V} {d : PyData} {u : Value} (h : Dp X.K H v d) (r : RelV v u) : Told X.prog X.w s.heap u d := by
  obtain ⟨as, rd⟩ := Dp.reads I d v u h r
  exact ⟨⟨_, rd⟩, fun hs hz => ReprK.of_reads rd hs (PyData.noDict_hsm (dp_noDict h)) hz⟩
theorem told_dic (I : Inv X pins σ H s) {a : Addr} (h : H a = some (.dK [])) : Told X.prog X.w s.heap (.ref a) (.dict []) := by
  obtain ⟨z, hsy, ws, kv, o, es, ep, ho, ex, hdat, _, hp, _⟩ := I.hok a _ h
  obtain ⟨r1, r2⟩ := pairs_reads (K := X.K) I hp kv (ds := []) .nil
  have rd : Reads s.heap (.ref a) (PyData.dict []) (a :: [] ++ []) := .dict ho ex.1 hdat r1 r2
  refine ⟨⟨_, rd⟩, fun hs hz => ReprK.of_reads rd hs (fun _ hm => ?_) hz⟩
  have e : sysModules = a := by simpa using hm
  rw [e] at hsy
  simp at hsy
mutual
theorem Dq.told (I : Inv X pins σ H s) : ∀ (d : PyData) (v : V) (u : Value), Dq X.K H v d → RelV v u → Told X.prog X.w s.heap u d
  | .list ds, _, _, h, r => by
    cases h with
    | dp h => exact told_dp I h r
    | lst hs ha =>
      cases r
      obtain ⟨its, rv, ⟨o, n, ho, hc, _, hd⟩, _⟩ := I.list (lst_sq (K := X.K) hs)
      exact Told.list ho hc hd (DqAll.told I ds _ its ha rv)
  | .tuple ds, _, _, h, r => by
    cases h with
    | dp h => exact told_dp I h r
    | tup hs ha =>
      cases r
      obtain ⟨its, n, rv, _, ho⟩ := hs.obj I
      exact Told.tuple ho rfl rfl (DqAll.told I ds _ its ha rv)
  | .dict _, _, _, h, r => by
    cases h with
    | dp h => exact told_dp I h r
    | dic e => cases r; exact told_dic I e
  | .none, _, _, h, r => by cases h with | dp h => exact told_dp I h r
  | .bool _, _, _, h, r => by cases h with | dp h => exact told_dp I h r
  | .int _, _, _, h, r => by cases h with | dp h => exact told_dp I h r
  | .str _, _, _, h, r => by cases h with | dp h => exact told_dp I h r
theorem DqAll.told (I : Inv X pins σ H s) : ∀ (ds : List PyData) (vs : List V) (us : List Value), DqAll X.K H vs ds → Vals vs us → ToldAll X.prog X.w s.heap us ds
  | [], _, _, h, r => by
    cases h
    cases r
    exact ToldAll.none
  | d :: ds, _, _, h, r => by
    cases h with
    | cons h1 h2 =>
      cases r with
      | cons r1 r2 => exact ToldAll.more (Dq.told I d _ _ h1 r1) (DqAll.told I ds _ _ h2 r2)
end
end
/-- repr of a tuple of such data -/
def uReprQ (K : PySem.W.Frag) : List V → Hp → VK → Prop := fun xs H Q => ∃ (a : Addr) (vs : List V) (ds : List PyData), xs = [.ref a] ∧ Tup H a vs ∧ DqAll K H vs ds ∧ fine (.tuple ds) ∧ (PyData.tuple ds).depth ≤ 100 ∧ cost (.tuple ds) ≤ 10000000 ∧ Q (.str (PyData.tuple ds).shown) H
theorem call_uReprQ {X : Cx} (hr : Rm 1 X.A) : CallR X (.builtin "repr") (uReprQ X.K) := by
  intro pins s σ H xs us Q I r h
  obtain ⟨a, vs, ds, rfl, ht, hd, hf, hdep, hz, q⟩ := h
  obtain ⟨u, rfl, rx⟩ := vals1 r
  cases rx
  obtain ⟨its, n, rv, _, ho⟩ := ht.obj I
  have t := DqAll.told I ds _ its hd rv
  have hu : X.A.units + ((PyData.tuple ds).depth + 1) < cLine := by
    have := hr.rm.un
    omega
  have eS : (PyData.tuple ds).shown = tupleText (PyData.shownAll ds) := by simp only [PyData.shown]
  have eD : (PyData.tuple ds).depth = PyData.depthAll ds + 1 := by simp only [PyData.depth]
  have hs := fine_show hf
  have hz' : (PyData.tuple ds).shown.length ≤ sizeLine := Nat.le_trans (shown_le hf) (line_big hz)
  rw [eS] at hz'
  obtain ⟨as, ra⟩ := t.r
  obtain ⟨bs, hb, hk⟩ := t.k (by simpa only [PyData.showable] using hs) fun x hx => Nat.le_trans (tupleText_mem_le hx) hz'
  have rr : Reads s.heap (.ref a) (.tuple ds) as := .tuple ho rfl rfl ra
  have hna : a ∉ bs := not_mem_of_deeper rr (by rw [eD]; omega) hb
  refine call_repr_slot (T := "tuple") (idr := "tuple.__repr__") (by omega) ⟨_, ho, rfl⟩ F.slot_tuple_repr (call_tuple_reprK ho rfl rfl hna hk hr.gd (fun b _ => Clear.nil b) (by show X.A.units + 1 + _ < cLine; omega) (fun _ _ e => e) (fun h' u tk hkp => ⟨_, _, rfl, ?_⟩) hz')
  rw [← eS]
  exact ⟨.str _, H, I.kept (t' := tk) hkp, ⟨_, rfl⟩, q⟩
end Wg

/-! Wagon, part 37: list.insert. -/
namespace Wg
open PySem PySem.Spec PyProof.Rows L2
def uInsert : V → List V → Hp → VK → Prop := fun x vs H Q => ∃ (l : Addr) (xs : List V) (i : Int) (y : V), x = .ref l ∧ vs = [.int i, y] ∧ H l = some (.lst xs) ∧ xs.length < sizeLine ∧ 0 ≤ i ∧ i < 2 ^ 63 ∧
  Q .non (upd H l (.lst (xs.take i.toNat ++ [y] ++ xs.drop i.toNat)))
theorem mt_uInsert {X : Cx} : MtR X "list.insert" uInsert := mt_insert
theorem g_insert {l : Addr} {xs : List V} {i : Int} {y : V} {H : Hp} {Q : VK} (h : H l = some (.lst xs)) (z : xs.length < sizeLine) (h0 : 0 ≤ i) (h1 : i < 2 ^ 63) (q : ∀ H', Keep [l] H H' → H' l = some (.lst (xs.take i.toNat ++ [y] ++ xs.drop i.toNat)) → Q .non H') : uInsert (.ref l) [.int i, y] H Q := ⟨l, xs, i, y, rfl, rfl, h, z, h0, h1, q _ Keep.set upd_same⟩
end Wg

/-! Wagon, part 38: t[::-1] of a tuple. -/
namespace Wg
open PySem PySem.Spec PyProof.Rows L2
section
variable {prog : Program} {w : World} {A : Around} {E : Value → Shared → Prop} {s : Shared}
theorem applied_rev {sl : Addr} {vl vu vs : Value} {n : Nat} {Q : Int × Int × Nat → Shared → Prop} (hs : s.heap.IsSliceOf sl vl vu vs) (pl : IsPart vl none) (pu : IsPart vu none) (ps : IsPart vs (some (-1)))
    (h : Q ((n : Int) - 1, -1, n) s) : wpAny (model prog w) A (Builtin.Slice.sliceApplied (.ref sl) (pure (n : Int))) Q E s := by
  obtain ⟨os, hos, hcs, hds⟩ := id hs
  unfold Builtin.Slice.sliceApplied Builtin.Slice.sliceFields
  refine wpAny_bind (wpAny_bind (wpAny_field hos hds (x := vl) rfl (wpAny_bind (wpAny_field hos hds (x := vu) rfl (wpAny_bind (wpAny_field hos hds (x := vs) rfl (wpAny_pure ?_)))))))
  refine wpAny_bind (HT.slicePart_ ps ?_)
  show wpAny _ _ (if ((-1 : Int) == 0) = true then _ else _) _ _ s
  rw [if_neg (by decide)]
  refine wpAny_bind (HT.slicePart_ pl (wpAny_bind (HT.slicePart_ pu (wpAny_bind (wpAny_pure ?_)))))
  show wpAny _ _ (pure ((n : Int) - 1, (-1 : Int), Builtin.Slice.slicePlaces ((n : Int) - 1) (-1) (-1))) _ _ s
  have e : Builtin.Slice.slicePlaces ((n : Int) - 1) (-1) (-1) = n := by
    unfold Builtin.Slice.slicePlaces
    rw [if_neg (by decide)]
    by_cases hn : (n : Int) - 1 > -1
    · rw [if_pos hn, show (- -1 : Int) = 1 by decide, Int.ediv_one]
      omega
    · rw [if_neg hn]
      omega
  rw [e]
  exact wpAny_pure h
theorem pick_rev (xs : Array Value) : ((List.range xs.size).filterMap fun (m : Nat) => xs[((xs.size : Int) - 1 + (m : Int) * (-1)).toNat]?).toArray = xs.toList.reverse.toArray := by
  have e : (List.range xs.size).filterMap (fun (m : Nat) => xs[((xs.size : Int) - 1 + (m : Int) * (-1)).toNat]?) = ((List.range xs.size).map fun k => xs.size - 1 - k).filterMap (xs[·]?) := by
    rw [List.filterMap_map]
    refine congrArg (fun f => List.filterMap f _) ?_
    funext m
    show xs[_]? = xs[xs.size - 1 - m]?
    have : ((xs.size : Int) - 1 + (m : Int) * (-1)).toNat = xs.size - 1 - m := by omega
    rw [this]
  rw [e, PySem.W.krv_range, List.filterMap_reverse, PySem.W.krv_all]
theorem rev_tuple {t sl : Addr} {items : Array Value} {vl vu vs : Value} {Q : Value → Shared → Prop} (ht : IsTup s.heap t items) (hs : s.heap.IsSliceOf sl vl vu vs) (pl : IsPart vl none) (pu : IsPart vu none) (ps : IsPart vs (some (-1)))
    (h : Q (.ref s.heap.objs.size) { s with heap := s.heap.push { cls := .type "tuple", data := .seq items.toList.reverse.toArray } })
    (hsz : items.size ≤ sizeLine) : wpAny (model prog w) A (getItem (.ref t) (.ref sl)) Q E s := by
  have htake : sizeOk (.seq items.toList.reverse.toArray) := by
    show items.toList.reverse.toArray.size ≤ sizeLine
    rw [List.size_toArray, List.length_reverse, Array.length_toList]
    omega
  obtain ⟨os, hos, hcs, hds⟩ := id hs
  have hTs : s.TypeIs (.ref sl) "slice" := ⟨os, hos, hcs⟩
  unfold getItem
  try with_reducible refine wpAny_holding ?_
  first | refine wpAny_bind (wpAny_pure ?_) | skip
  refine wpAny_bind (wpAny_sequenceKey ht.typeIs (by decide) ?_)
  refine wpAny_bind (wpAny_callSpecial?_slot (name := Str.ofString "__getitem__") ht.typeIs PyProof.Rows.slot_tuple_getitem
    (wpAny_call_entry PyProof.Rows.slot_tuple_getitem ht.typeIs entry_tuple_getitem ?_ (args_tuple_getitem _ _)))
  show wpAny _ _ (Builtin.Tuple.tupleItemsOf (.ref t) >>= _) _ _ s
  refine wpAny_bind (tupleItemsOf_ ht ?_)
  refine wpAny_bind (wpAny_typeOf hTs ?_)
  rw [if_pos (by decide)]
  refine wpAny_bind (applied_rev (n := items.size) hs pl pu ps ?_)
  have hno : ¬ ((((items.size : Int) - 1) == 0 && (-1 : Int) == 1 && items.size == items.size) = true) := by
    rw [show ((-1 : Int) == 1) = false by decide, Bool.and_false, Bool.false_and]
    exact Bool.false_ne_true
  show wpAny _ _ (if (((items.size : Int) - 1) == 0 && (-1 : Int) == 1 && items.size == items.size) = true then _ else _) _ _ s
  rw [if_neg hno, pick_rev]
  first
    | exact wpAny_bind (m := Builtin.Tuple.tupleExact _) (wpAny_newObj_type (wpAny_pure ⟨_, rfl, wpAny_pure h⟩) htake)
    | exact wpAny_bind (m := Builtin.Tuple.tupleExact _) (wpAny_newObj_type (wpAny_bind (wpAny_pure (wpAny_pure ⟨_, rfl, wpAny_pure h⟩))) htake)
    | exact wpAny_bind (wpAny_bind (m := Builtin.Tuple.tupleExact _) (wpAny_newObj_type (wpAny_pure (wpAny_pure ⟨_, rfl, wpAny_pure h⟩)) htake))
    | exact wpAny_bind (wpAny_bind (m := Builtin.Tuple.tupleExact _) (wpAny_newObj_type (wpAny_pure ⟨_, rfl, wpAny_pure h⟩) htake))
end
section
variable {X : Cx}
/-- xs[::-1], of a list or a tuple -/
def tRevT (K : PySem.W.Frag) (te : TE) : TE := fun σ H Q => te σ H fun x H1 => ∃ a xs, x = .ref a ∧ Tup H1 a xs ∧ Mt H1 xs.reverse Q
theorem pe_revT {e : Expr} {te : TE} {k : Nat} {p1 p2 p3 pos : Pos} (he : PE X e te) : PE X (.Subscript e (.Slice none none (some (.UnaryOp .USub (.Constant (.int 1) k p1) p2)) p3) pos) (tRevT X.K te) := by
  refine ⟨fun pins s σ H Q I h => ?_⟩
  refine Subscript_ (thn (he.run pins s σ H _ I h) fun v s1 ⟨x, H1, I1, r1, q1⟩ => ?_)
  obtain ⟨a, xs, ex, hx, q⟩ := q1
  subst ex
  cases r1
  have hst : PO X (some (.UnaryOp .USub (.Constant (.int 1) k p1) p2)) (tPart (tUn (rU fun i => .int (-i)) (tC (.int 1)))) := po_some (pe_un un_neg pe_int)
  refine wpAny_Slice (thn (po_none.run pins s1 σ H1 (fun o H2 => o = none ∧ H2 = H1) I1 ⟨rfl, rfl⟩) fun vl s2 ⟨l, H2, I2, pl, el, e2⟩ => ?_)
  subst el e2
  refine thn (po_none.run pins s2 σ H2 (fun o H3 => o = none ∧ H3 = H2) I2 ⟨rfl, rfl⟩) fun vu s3 ⟨u, H3, I3, pu, eu, e3⟩ => ?_
  subst eu e3
  refine thn (hst.run pins s3 σ H3 (fun o H4 => o = some (-1) ∧ H4 = H3) I3 ⟨1, rfl, -1, rfl, rfl, rfl⟩) fun vs s4 ⟨o, H4, I4, ps, eo, e4⟩ => ?_
  subst eo e4
  have I5 : Inv X pins σ H4 { s4 with heap := s4.heap.push { cls := .type "slice", data := .fields #[vl, vu, vs] } } := I4.kept (t' := s4.toks) fun b ob q => Heap.get?_push_of_some _ q
  obtain ⟨its, r, ht, hz⟩ := I5.tuple hx.sq
  have hlen := r.length
  show wpAny (model X.prog X.w) X.A (subscriptTail e (.Slice none none (some (.UnaryOp .USub (.Constant (.int 1) k p1) p2)) p3) (.ref a) (.ref s4.heap.objs.size)) (EP X pins σ Q) X.xe { s4 with heap := s4.heap.push { cls := .type "slice", data := .fields #[vl, vu, vs] } }
  refine tail_any (ops := [.ref a, .ref s4.heap.objs.size]) ht.typeIs (PyProof.Rows.slot_tuple_getitem.lookup) ?_ (by with_unfolding_all rfl)
  refine rev_tuple ht (Heap.IsSliceOf.new _ vl vu vs) pl pu ps ?_ (by rw [List.size_toArray]; omega)
  exact mt_end (t' := s4.toks) I5 r.reverse (by rw [List.length_reverse]; exact hz) q
end
theorem g_revT {K : PySem.W.Frag} {te : TE} {σ : L2.St} {H : Hp} {Q : VK} : tRevT K te σ H Q ↔ te σ H fun x H1 => ∃ a xs, x = .ref a ∧ Tup H1 a xs ∧ Mt H1 xs.reverse Q := Iff.rfl
end Wg

/-! Wagon, part 39: len(set(t)) of a tuple of texts, some perhaps told twice. -/
namespace Wg
open PySem PySem.Spec PyProof.Rows L2
/-- how many unlike ones stand among the first i -/
def cntD {K : Type} [DecidableEq K] (ks : List K) : Nat → Nat
  | 0 => 0
  | i + 1 => match ks[i]? with
    | some k => if k ∈ ks.take i then cntD ks i else cntD ks i + 1
    | none => cntD ks i
theorem cntD_succ {K : Type} [DecidableEq K] {ks : List K} {i : Nat} {k : K} (e : ks[i]? = some k) : cntD ks (i + 1) = if k ∈ ks.take i then cntD ks i else cntD ks i + 1 := by
  show (match ks[i]? with | some k => if k ∈ ks.take i then cntD ks i else cntD ks i + 1 | none => cntD ks i) = _
  rw [e]
theorem cntD_le {K : Type} [DecidableEq K] (ks : List K) : ∀ i, cntD ks i ≤ i
  | 0 => Nat.le_refl _
  | i + 1 => by
    have := cntD_le ks i
    unfold cntD
    split
    · split <;> omega
    · omega
theorem cntD_full {K : Type} [DecidableEq K] (ks : List K) : ∀ i, i ≤ ks.length → (cntD ks i = i ↔ (ks.take i).Nodup)
  | 0, _ => by simp [cntD]
  | i + 1, h => by
    have ih := cntD_full ks i (by omega)
    have le := cntD_le ks i
    have e : ks[i]? = some ks[i] := List.getElem?_eq_getElem (by omega)
    have tk : ks.take (i + 1) = ks.take i ++ [ks[i]] := by rw [List.take_succ, e]; rfl
    rw [tk, List.nodup_append]
    unfold cntD
    rw [e]
    dsimp only
    split
    · rename_i hm
      constructor
      · intro z; omega
      · intro z; exact (z.2.2 _ hm _ (List.mem_singleton.mpr rfl) rfl).elim
    · rename_i hm
      constructor
      · intro z
        refine ⟨ih.mp (by omega), by simp, fun a ha b hb c => ?_⟩
        rw [List.mem_singleton.mp hb] at c
        exact hm (c ▸ ha)
      · intro z
        have := ih.mpr z.1
        omega
section
variable {P : Program} {w : World} {A : Around} {R : Result → Shared → Prop} {it : Addr} {near own : List Addr} {G : Array GenState → Array GenState → Prop} {n : Nat} {Pv : Nat → Value → Prop} {St : Nat → Shared → Prop}
variable {K : Type} [DecidableEq K] [BEq K] [LawfulBEq K] {kd : KeyKind P w K}
/-- what set.update does over what walks through keys of one kind -/
theorem put_any (W : WalksS P w A.in1 it near own G n Pv St) {c : Addr} (hc : c ∉ near) {ks : List K} (hl : ks.length = n) (few : n + 1 < scanBound)
    (hv : ∀ i v, Pv i v → ∃ h : i < ks.length, kd.is ks[i] v = true ∧ v.scannable = true) :
    ∀ (m i : Nat), i + m = n → ∀ s : Shared, St i s → s.heap.SetOf kd c (fun k => decide (k ∈ ks.take i)) (cntD ks i) →
      (∀ s', Moved (c :: own) G s s' → s'.heap.SetOf kd c (fun k => decide (k ∈ ks)) (cntD ks n) → R (.ok (.ret .none)) s') →
      codeAny (model P w) A (.builtin "set.update.loop" ⟨[.ref c, .ref it], []⟩) R s := by
  have nc : c ∉ own := fun h => hc (W.sub c h)
  have up : ∀ {h h' : Heap} {S : K → Bool} {q : Nat}, h.SetOf kd c S q → (∀ o, h.get? c = some o → h'.get? c = some o) → h'.SetOf kd c S q := fun x k => by
    obtain ⟨o, es, ep, t, ho, x⟩ := x
    exact ⟨o, es, ep, t, k o ho, x⟩
  intro m
  induction m with
  | zero =>
    intro i e s st hS fin
    have e : i = n := e
    subst e
    refine codeAny_builtin PyProof.Rows.F.entry_set_update_loop ?_
    rw [Around.under_plainId PyProof.Rows.F.plain_set_update_loop]
    refine wpAny_bind (m := pyNext (.ref it)) (W.done s _ _ st fun s' mv => wpAny_pure (fin s' (mv.mono fun _ h => .tail _ h) ?_))
    have := up hS fun o ho => mv.heap c o nc ho
    have all : ks.take i = ks := by rw [← hl, List.take_length]
    simpa only [all] using this
  | succ m ih =>
    intro i e s st hS fin
    refine codeAny_builtin PyProof.Rows.F.entry_set_update_loop ?_
    rw [Around.under_plainId PyProof.Rows.F.plain_set_update_loop]
    refine wpAny_bind (m := pyNext (.ref it)) (W.item i s _ _ (by omega) st fun v s1 pv st1 mv => ?_)
    obtain ⟨hi, hk, sc⟩ := hv i v pv
    refine wpAny_bind (m := holding [v] (setAdd c v)) (wpAny_holding ?_)
    unfold setAdd
    refine wpAny_holding (wpAny_bind (kd.pyHash hk ?_))
    have cl := cntD_le ks i
    refine wpAny_setAddHashed_of (s := { s1 with toks := s1.toks + 1 }) hk sc (up hS fun o ho => mv.heap c o nc ho) (by omega) fun h2 same hS2 => ?_
    have e : ks[i]? = some ks[i] := List.getElem?_eq_getElem hi
    have hS3 : h2.SetOf kd c (fun k => decide (k ∈ ks.take (i + 1))) (cntD ks (i + 1)) := by
      refine PyProof.Rows.SetOf_congr hS2 (fun k => ?_) ?_
      · rw [List.take_succ, List.getElem?_eq_getElem hi]
        simp only [Option.toList_some, List.mem_append, List.mem_singleton, Bool.decide_or]
      · show _ = cntD ks (i + 1)
        rw [cntD_succ e]
        by_cases hm : ks[i] ∈ ks.take i
        · rw [if_pos (decide_eq_true hm), if_pos hm]
        · rw [if_neg (by rw [decide_eq_true_eq]; exact hm), if_neg hm]
    refine wpAny_pure ⟨plainId_quiet PyProof.Rows.F.plain_set_update_loop _, ih (i + 1) (by omega) _ (W.frame _ s1 _ _ st1 (Nat.le_succ _) fun b hb o ho => ?_) hS3 fun s2 mv2 hS4 => ?_⟩
    · rw [same.2 b fun x => hc (x ▸ hb)]
      exact ho
    · refine fin s2 (Moved.trans W.gtrans ((mv.mono fun _ h => .tail _ h).then_heap (Nat.le_succ _) fun b o hb ho => ?_) mv2) hS4
      rw [same.2 b fun x => hb (x ▸ .head _)]
      exact ho
end
section
variable {P : Program} {w : World} {A : Around} {E : Value → Shared → Prop} {s : Shared} {K : Type} [DecidableEq K] [BEq K] [LawfulBEq K] {kd : KeyKind P w K}
theorem set_ofT {l : Addr} {vs : Array Value} {ks : List K} {Q : Value → Shared → Prop} (hh : A.handled = none) (hl : s.heap.IsTuple l vs) (hn : ks.length = vs.size) (few : vs.size + 1 < scanBound)
    (hv : ∀ (i : Nat) (v : Value), vs[i]? = some v → ∃ h : i < ks.length, kd.is ks[i] v = true ∧ v.scannable = true)
    (q : ∀ (h : Heap) (t : Nat), h.SetOf kd s.heap.objs.size (fun k => decide (k ∈ ks)) (cntD ks vs.size) → (∀ b o, b < s.heap.objs.size → s.heap.get? b = some o → h.get? b = some o) → Q (.ref s.heap.objs.size) { s with heap := h, toks := t }) :
    wpAny (model P w) A (call (.type "set") [.ref l]) Q E s := by
  obtain ⟨cl, rest, hmro⟩ := PySem.F.called_set.mro
  have f1 := PySem.F.called_set.made
  have f2 := PySem.F.called_set.sub
  have f3 := PySem.F.called_set.notType
  have f4 := PySem.F.called_set.canCreate
  have f5 := PySem.F.typeCall_set_1 (.ref l)
  have f6 := PySem.F.called_set.init.lookup
  have f7 := PySem.F.called_set.init.bind (.ref s.heap.objs.size)
  refine wpAny_call (codeAny_of_tree ?_)
  change wpAny _ _ (callAny (.type "set") _) _ _ _
  refine wpAny_pure ⟨Code.quiet_builtin _ (by decide +kernel), codeAny_builtin PySem.F.entry_type_call ?_⟩
  rw [Around.under_plain (weight_type_call_type "set" [.ref l] []) rfl]
  repeat (any_goals (first | assumption | wp_step))
  refine codeAny_mono (code_set_new_1 (.ref l) (E := E) (Q₁ := fun r s1 => ∃ b : Bool, r = .ref s.heap.objs.size ∧ s1 = { s with heap := s.heap.push { cls := .type "set", dict := none, data := .set #[] 0 (.fresh 0 0 b) } }) fun b => ⟨b, rfl, rfl⟩) fun r s1 hr => ?_
  rcases r with x | fl
  · exact hr
  cases fl with
  | ret r =>
    obtain ⟨b, rfl, rfl⟩ := hr
    have at0 : (s.heap.push { cls := .type "set", dict := none, data := .set #[] 0 (.fresh 0 0 b) }).get? s.heap.objs.size = some { cls := .type "set", dict := none, data := .set #[] 0 (.fresh 0 0 b) } := Heap.get?_push_size _ rfl
    have ty0 : Shared.TypeIs { s with heap := s.heap.push { cls := .type "set", dict := none, data := .set #[] 0 (.fresh 0 0 b) } } (.ref s.heap.objs.size) "set" := ⟨_, at0, rfl⟩
    repeat (any_goals (first | assumption | wp_step))
    refine codeAny_mono (codeAny_call_builtin (R := wants (fun r s2 => r = .none ∧ ∃ h t, s2 = { s with heap := h, toks := t } ∧ h.SetOf kd s.heap.objs.size (fun k => decide (k ∈ ks)) (cntD ks vs.size) ∧
      ∀ b o, b < s.heap.objs.size → s.heap.get? b = some o → h.get? b = some o) E) PySem.F.called_set.init.plain PySem.F.entry_set_init (check_set_init_1 ty0 ?_)) fun r2 s2 hr2 => ?_
    · obtain ⟨⟨kc, kd1, kdat, ksl⟩, g1, g2, nl, g3⟩ := hl
      simp only at g2 g3
      subst g2 g3
      have t1 := PySem.F.sub_tuple_set
      have t2 := PySem.F.sub_tuple_frozenset
      have t3 : (Value.type "tuple" == Value.type "dict") = false := by decide
      have g4 := Heap.get?_push_of_some ({ cls := .type "set", dict := none, data := .set #[] 0 (.fresh 0 0 b) } : Obj) g1
      have here : (s.heap.push { cls := .type "set", dict := none, data := .set #[] 0 (.fresh 0 0 b) }).IsTuple l vs := ⟨_, g4, rfl, nl, rfl⟩
      have low : l < s.heap.objs.size := Heap.lt_size g1
      unfold Builtin.«set.__init__» noKeywords Builtin.Frozenset.updateFrom
      generalize hpy : pyIter = py
      wp_walk
      subst hpy
      refine wpAny_pyIter_tuple here (wpAny_bind (wpAny_runValue ?_))
      have sz : (s.heap.push { cls := .type "set", dict := none, data := .set #[] 0 (.fresh 0 0 b) }).objs.size = s.heap.objs.size + 1 := Heap.size_push _ _
      have apart : l ≠ s.heap.objs.size + 1 := Nat.ne_of_lt (Nat.lt_succ_of_lt low)
      have own : s.heap.objs.size ≠ s.heap.objs.size + 1 := Nat.ne_of_lt (Nat.lt_succ_self _)
      have quiet : A.in1.in1.in1.handled = none := by simp [hh]
      refine put_any (kd := kd) ((Walks.tuple quiet _ l (by rw [sz]; exact apart) vs).toS) (c := s.heap.objs.size) (by rw [sz]; simp only [List.mem_cons, List.not_mem_nil, or_false]; exact fun x => x.elim own (Nat.ne_of_gt low)) hn few hv vs.size 0 (by omega) _
        ⟨⟨_, Heap.get?_push_size _ rfl, rfl, rfl⟩, here.push _⟩ ?_ fun s2 mv hS => ?_
      · exact PyProof.Rows.SetOf_congr ((PyProof.Rows.setObjOf_fresh (knd := kd) b).setOf (Heap.get?_push_of_some _ at0) (by unfold scanBound; omega)) (fun k => by simp) rfl
      · obtain ⟨h2, gg, dd, tt, oo⟩ := s2
        obtain rfl : gg = s.gens := mv.gens
        obtain rfl : dd = s.drawn := mv.drawn
        obtain rfl : oo = s.os := mv.os
        refine wpAny_pure (wpAny_pure ⟨rfl, h2, tt, rfl, hS, fun a o ha ho => mv.heap a o ?_ (Heap.get?_push_of_some _ (Heap.get?_push_of_some _ ho))⟩)
        rw [sz]
        simp only [List.mem_cons, List.not_mem_nil, or_false]
        exact fun x => x.elim (Nat.ne_of_lt ha) (Nat.ne_of_lt (Nat.lt_succ_of_lt ha))
    · rcases r2 with x | f2
      · exact hr2
      cases f2 with
      | ret r =>
        obtain ⟨rfl, h, t, rfl, hS, old⟩ := hr2
        repeat (any_goals (first | assumption | wp_step))
        exact q _ _ hS old
      | _ => exact hr2.elim
  | _ => exact hr.elim
end
section
variable {X : Cx}
/-- len(set(t)), t a tuple of texts -/
def tLenTextsT (K : PySem.W.Frag) (ta : TE) : TE := fun σ H Q => ta σ H fun x H1 => ∃ (l : Addr) (xs : List Str), x = V.ref l ∧ Tup H1 l (xs.map V.str) ∧ xs.length < 64 ∧ Q (.int (cntD xs xs.length : Nat)) H1
theorem pe_lenTextsT {a : Expr} {ta : TE} {p p2 q pos : Pos} (calm : X.calm = true) (g1 : Gl X "len") (m1 : X.mg "len" = none) (g2 : Gl X "set") (m2 : X.mg "set" = none) (pa : PE X a ta)
    (each : starEach [a] X.env = (false, eval a X.env) :: starEach [] X.env := by rfl) : PE X (.Call (.Name "len" p) [.Call (.Name "set" p2) [a] [] q] [] pos) (tLenTextsT X.K ta) := by
  refine ⟨fun pins s σ H Q I h => Call_ (ld_blt I g1 m1 boot_len (PyProof.Rows.callWith_builtin1 (PyProof.Rows.args_cons ?_ rfl) rfl rfl))⟩
  refine Call_ (ld_blt I g2 m2 boot_set (PyProof.Rows.callWith_type1 (PyProof.Rows.args_cons (thn (pa.run pins s σ H _ I h) fun v s1 ⟨x, H1, J, r, hx⟩ => PyProof.Rows.args_nil ?_) each) each rfl))
  obtain ⟨l, xs, rfl, tu, few, hx⟩ := hx
  cases r
  obtain ⟨vs, rv, lv, _⟩ := J.tuple (tu.sq (K := X.K))
  have sz : xs.length = vs.toArray.size := by rw [List.size_toArray, ← rv.length, List.length_map]
  have cl := cntD_le xs xs.length
  refine set_ofT (kd := strKind X.prog X.w) (J.ok.hd calm) (show s1.heap.IsTuple l vs.toArray from lv) sz (by unfold scanBound; omega) (fun i v e => text_at rv i v (by simpa using e)) fun h2 t hS old => PyProof.Rows.args_nil ?_
  obtain ⟨o, es, ep, tb, ho, ex, hd, _, _, _, fit, hn⟩ := hS
  rw [← sz] at hn
  exact call_len_set ho ex hd fit (by rw [hn]; omega) ⟨.int (cntD xs xs.length : Nat), H1, (J.kept fun b o e => old b o (Heap.lt_size e) e).tok _, ⟨_, by rw [hn]⟩, hx⟩
end
end Wg

/-! Wagon, part 40: exceptions of own classes: raised, let out by defs, caught, asked. -/
namespace Wg
open PySem PySem.Spec PyProof.Rows L2

/-! ### calls that may let an exception out -/
section
variable {X : Cx} {CX : CXT} {k : Nat} {f : Addr} {fd : FuncData} {ps : List Str} {sp : Sp} {E : L2.St → XK} {x : Str} {p pos : Pos} {e : Expr} {es : List Expr} {t : TA}
theorem go_fnS {pins : List (Addr × Obj)} {σ : L2.St} {H : Hp} {s : Shared} {Q : VK} {us : List Value} {vs : List V}
    (F : Keeps X.prog X.w X.K X.mg X.base CX k f fd ps sp) (hr : Rm k X.A) (hb : Binds X.K fd ps []) (hx : PassesAt CX X σ (E σ))
    (I : Inv X pins σ H s) (r : Vals vs us) (h : sp vs H Q (E σ)) : wpAny (model X.prog X.w) X.A (call (.ref f) us) (EP X pins σ Q) X.xe s := by
  have hl : (us ++ []).length = ps.length := by
    rw [List.append_nil, ← r.length]
    exact F.len _ _ _ _ h
  have hbs := hb s us I.kIn hl
  rw [List.append_nil] at hbs
  have run := F.run X.A X.stack s H ⟨us, []⟩ us vs Q (E σ) hr I.env0 hbs r h
  refine wpAny_call (codeAny_mono run fun res s' hq => ?_)
  match res, hq with
  | .error e, hq => exact hx pins H s e s' I hq
  | .ok (.ret u), hq => exact I.after hq
  | .ok .next, hq => exact hq.elim
  | .ok .brk, hq => exact hq.elim
  | .ok .cont, hq => exact hq.elim
def tGoS (sp : Sp) (E : L2.St → XK) (t : TA) : TE := fun σ H Q => t σ H fun vs H1 => sp vs H1 Q (E σ)
theorem pe_goS (F : Keeps X.prog X.w X.K X.mg X.base CX k f fd ps sp) (hr : Rm k X.A) (hg : Gl X x) (hm : X.mg x = some (.ref f)) (hk : PySem.W.keepIn X.K (.ref f) = true)
    (hb : Binds X.K fd ps []) (hx : ∀ σ, PassesAt CX X σ (E σ)) (ha : PA X (e :: es) t) (hdb : (x == ("__debug__" : Str)) = false := by decide)
    (he : starEach (e :: es) X.env = (false, eval e X.env) :: starEach es X.env := by rfl) (hpl : (backTo pos (starEach es X.env)).any (·.1) = false := by rfl) :
    PE X (.Call (.Name x p) (e :: es) [] pos) (tGoS sp E t) := by
  constructor
  intro pins s σ H Q I h
  refine wpAny_Call_Name_kw (ld_glob I hg hm ?_ hdb)
  have args := ha.run pos pins s σ H _ I h
  refine PySem.W.callWith_K (h₀ := X.base) I.ok.mod.kin hk (thn args fun us s1 hh => ?_) he hpl
  obtain ⟨vs, H1, I1, r, q⟩ := hh
  exact ⟨I1.kIn, go_fnS F hr hb (hx σ) I1 r q⟩
end

/-! ### defs that may raise -/
section
variable {P : Program} {w : World} {K : PySem.W.Frag} {mg : Str → Option Value} {b : Heap}
theorem keepsX {x qual : Str} {st : Stmt} {f : Addr} {fd : FuncData} {N ps : List Str} {k : Nat} {sp : Sp} (F : Fun K x qual st f fd) (S : FnScope N ps (defScope st))
    (len : ∀ vs H Q E, sp vs H Q E → vs.length = ps.length)
    (body : ∀ (cdv : Value) (A : Around) (o : List Env) (s : Shared) (H : Hp) (vs : List V) (Q : VK) (E : XK), Rm k (A.deeper (envOfC qual (defScope st) s.heap.objs.size f cdv)) → sp vs H Q E →
      ∃ t, PSs (cxOf (L2.CX P w) P w K mg b N qual (defScope st) f cdv A o s H E) (defBody st) t ∧ t { nx := fun _ H' => Q .non H', rt := Q } (start N vs) H) :
    Keeps P w K mg b (L2.CX P w) (k + 1) f fd ps sp := keeps_of F S len body
theorem keepsTX {x qual : Str} {st : Stmt} {f c : Addr} {fd : FuncData} {N ps : List Str} {k : Nat} {sp : Sp} (F : Fun K x qual st f fd) (hc : fd.code = .ref c) (S : FnScope N ps (defScope st))
    (len : ∀ vs H Q E, sp vs H Q E → vs.length = ps.length)
    (body : ∀ (A : Around) (o : List Env) (s : Shared) (H : Hp) (vs : List V) (Q : VK) (E : XK), Rm k (A.deeper (envOfC qual (defScope st) s.heap.objs.size f (.ref c))) → sp vs H Q E →
      ∃ t, PSs (cxOf (L2.CX P w) P w K mg b N qual (defScope st) f (.ref c) A o s H E) (defBody st) t ∧ t { nx := fun _ H' => Q .non H', rt := Q } (start N vs) H) :
    Keeps P w K mg b (L2.CX P w) (k + 1) f fd ps sp := by
  obtain ⟨oc, od, kV, doc, pm, an, cdv, ct, osl, rfl, lk, hcd⟩ := F.ex
  obtain rfl : cdv = .ref c := hc
  refine ⟨len, fun A o s H g us vs Q E hr e0 hb r hsp => ?_⟩
  have hl := len _ _ _ _ hsp
  have up : ∀ {a : Addr} {ob : Obj}, b.get? a = some ob → s.heap.get? a = some ob := fun {a ob} q => (e0.bs a ob q).1
  have inK : K.In s.heap := e0.mod.kin.keeps fun _ _ q => up q
  have nolim : s.heap.NoLimit := e0.mod.nolimit.keeps fun _ _ q => up q
  have kinds : ∀ y ∈ ps.zip us, (defScope st).names.lookup y.1 = some .local ∨ ((defScope st).names.lookup y.1 = some .cell ∧ ((cellsFrom (s.heap.objs.size + 1) (defScope st).names []).lookup y.1).isSome = true) := by
    rintro ⟨n, v⟩ hy
    have hn := S.par n (List.of_mem_zip hy).1
    exact hn.imp id fun q => ⟨q, PySem.W.cellsFrom_some _ _ _ (.inl q)⟩
  have recd := PySem.W.codeRec_of inK hcd
  refine codeAny_call_function hr.rm.depth (inK _ _ lk) rfl S.co S.gen rfl recd (hb _ _ _ _ ?_)
  refine wpAny_newFunctionEnv_cells S.kind kinds ?_
  intro env he s1 y
  subst he
  refine ⟨nolim.keeps y.toInCall.keep, codeAny_func ?_⟩
  obtain ⟨t, ht, hq⟩ := body A o s H vs Q E (hr.deep _) hsp
  have I := inv_start (CX := L2.CX P w) (E := E) S hr.rm.hd e0 hl r y
  refine wpAny_mono (ht.run [] s1 (start N vs) H _ I hq) ?_ fun _ _ q => q
  intro fl s' hs
  match fl, hs with
  | .ret u, hs =>
    obtain ⟨v, σ', H', J, rv, q⟩ := hs
    exact ⟨v, H', J.os, J.bare, J.base, J.hok, rv, q⟩
  | .next, hs =>
    obtain ⟨σ', H', J, q⟩ := hs
    exact ⟨.non, H', J.os, J.bare, J.base, J.hok, rfl, q⟩
  | .brk, hs => exact hs.elim fun _ z => z.elim fun _ y => y.2.elim
  | .cont, hs => exact hs.elim fun _ z => z.elim fun _ y => y.2.elim
end

/-! ### an own class's base, named: W.__init__(self, ..) where W has none of its own -/
structure BasW (K : PySem.W.Frag) (W : Addr) : Prop where
  ga : PySem.W.specialIn K (.ref W) "__getattribute__" = some (some (.builtin "type.__getattribute__"))
  rd : PySem.W.readsIn K W (.type "type") = true
  fi : PySem.W.findCls K (.ref W) (.type "type") "__init__" = some (.val (.builtin "ValueError.__init__"))
section
variable {X : Cx} {e : Expr} {es : List Expr} {ta : TA} {p1 p2 pos : Pos} {x : Str} {W : Addr}
theorem pe_winit {pl : Sem Bool} (B : BasW X.K W) (hg : Gl X x) (hm : X.mg x = some (.ref W)) (ha : PA X (e :: es) ta)
    (hc : eval (.Call (.Attribute (.Name x p1) "__init__" p2) (e :: es) [] pos) X.env = (do
      let ov ← eval (.Name x p1) X.env
      standAt p2.atName
      let (f, first) ← holding [ov] (getMethod ov "__init__" pl)
      callWith pos f first (backTo pos (starEach (e :: es) X.env)) (backToKw pos (keywordEach [] X.env))) := by rfl)
    (hdb : (x == ("__debug__" : Str)) = false := by decide)
    (he : starEach (e :: es) X.env = (false, eval e X.env) :: starEach es X.env := by rfl) (hpl : (backTo pos (starEach es X.env)).any (·.1) = false := by rfl) :
    PE X (.Call (.Attribute (.Name x p1) "__init__" p2) (e :: es) [] pos) (tVeI X.K ta) := by
  refine ⟨fun pins s σ H Q I h => ?_⟩
  refine PySem.W.methodCall_KW (ld_glob I hg hm ?_ hdb) hc
  refine PySem.W.method_cls I.kIn B.ga (PySem.W.cls_value I.kIn B.rd B.fi (by decide +kernel) ?_)
  show wpAny _ _ (callWith pos (Value.builtin "ValueError.__init__") [] (backTo pos (starEach (e :: es) X.env)) []) _ _ _
  refine PyProof.Rows.callWith_method1 (thn (ha.run pos pins _ σ H _ (I.tok _) h) fun us s1 ⟨vs, H1, I1, r1, a, C, ws, ev, hl, T, ea, q⟩ => ?_) he hpl
  subst ev
  cases r1 with
  | @cons _ u0 _ ur ra rw' =>
    obtain rfl : u0 = Value.ref a := ra
    have hlen : ur.length ≤ sizeLine := by
      rw [← Paired.length rw', sizeLine_eq]
      omega
    exact oinit_ok T I1 ea hlen fun s' J => ⟨.non, H1, J, rfl, q⟩
end

/-! ### raise -/
def tRaiseE (E : XK) (t : L2.St → Hp → XK → Prop) : TS := fun _ σ H => t σ H fun cls d H' => E cls d H'
/-- raise within a def that may let it out -/
theorem ps_raiseE {X : Cx} {E : XK} {e : Expr} {t : L2.St → Hp → XK → Prop} {pos : Pos} (hc : X.calm = true) (tk : Takes X (fun cls d _ H => E cls d H)) (he : PMk X e t) : PS X (.Raise (some e) none pos) (tRaiseE E t) := ps_raise hc tk he
theorem upd_fun {H1 H2 : Hp} {a d : Addr} {o : HO} (na : H1 a = none) (nd : d ≠ a) (h : ∀ b, b ≠ a → b ≠ d → H2 b = H1 b) : upd (del H2 a) d o = upd H1 d o := by
  funext b
  by_cases hd : b = d
  · rw [hd, upd_same, upd_same]
  · rw [upd_ne hd, upd_ne hd]
    by_cases ha : b = a
    · rw [ha, del_same, na]
    · rw [del_ne ha, h b ha hd]
/-- what an __init__ that keeps its arguments as fields promises -/
def spIni (K : PySem.W.Frag) (C : Addr) (fs : List Str) : Sp := fun vs H Q _ => ∃ (a : Addr) (ws : List V), vs = .ref a :: ws ∧ ws.length = fs.length ∧ H a = some (exo a C none) ∧
  ∀ d H', H d = none → d ≠ a → H' a = some (exo a C (some d)) → H' d = some (exd d (fs.zip ws).reverse) → (∀ b, b ≠ a → b ≠ d → H' b = H b) → Q .non H'
theorem g_mkO {C : Addr} {K : PySem.W.Frag} {fs : List Str} {ws : List V} {σ : L2.St} {H : Hp} {Q : XK} (l : ws.length = fs.length) (l2 : ws.length ≤ 1000) (q : ∀ d, H d = none → Q (.ref C) (some d) (upd H d (.xd (fs.zip ws).reverse))) :
    ws.length ≤ 1000 ∧ ∀ a, H a = none → spIni K C fs (.ref a :: (ws ++ [])) (upd H a (exo a C none))
      (fun v H2 => v = .non ∧ ∃ (d : Addr) (gs : List (Str × V)), H2 a = some (exo a C (some d)) ∧ H2 d = some (exd d gs) ∧ H d = none ∧ Q (.ref C) (some d) (upd (del H2 a) d (.xd gs))) (fun _ _ _ => False) := by
  refine ⟨l2, fun a na => ⟨a, ws, by rw [List.append_nil], l, upd_same, fun d H' nd ne ea ed same => ⟨rfl, d, _, ea, ed, ?_, ?_⟩⟩⟩
  · rw [upd_ne ne] at nd
    exact nd
  · rw [upd_ne ne] at nd
    rw [upd_fun na ne fun b h1 h2 => by rw [same b h1 h2, upd_ne h1]]
    exact q d nd

/-! ### asked in an except suite -/
structure ExA (K : PySem.W.Frag) (C : Addr) : Prop where
  cl : (PySem.W.clsIn K C).isSome = true
  ga : PySem.W.findIn K (.ref C) "__getattribute__" = some (some (.builtin "BaseException.__getattribute__"))
  gg : PySem.W.findIn K (.ref C) "__getattr__" = some none
  ex : PySem.W.subIn K (.ref C) (.type "BaseException") = some true
  hd : PySem.W.hasDictIn K C = true
  kl : PySem.W.findIn K (.ref C) "__class__" = some (some (.builtin "object.__class__"))
  kn : PySem.W.specialIn K (.builtin "object.__class__") "__get__" = some (some (.builtin "getset_descriptor.__get__"))
  kt : PySem.W.takesIn K (.builtin "object.__class__") = some true
  km : PySem.W.mroIn K C (.type "object") = some true
theorem ExA.xf {K : PySem.W.Frag} {C : Addr} (T : ExA K C) : XfC K C := ⟨T.ga, T.gg, T.ex, T.hd⟩
/-- the caught exception in the suite: its class, its fields -/
def Caught (K : PySem.W.Frag) (cls : Value) (d : Option Addr) (H : Hp) (C : Addr) (fs : List (Str × V)) : Prop := cls = .ref C ∧ ExA K C ∧ ∃ dd, d = some dd ∧ H dd = some (.xd fs)
theorem caught_at {X : Cx} {a C : Addr} {oe : Obj} {cls : Value} {d : Option Addr} {pn pins : List (Addr × Obj)} {σ : L2.St} {H : Hp} {s : Shared} {fs : List (Str × V)} (hz : Zc cls d oe) (hf : ∃ vs, oe.data = .fields vs)
    (I : Inv (X.suite a ((a, oe) :: pn)) pins σ H s) (h : Caught X.K cls d H C fs) : ∃ od, PySem.W.InstAt s.heap a oe C (some od) ∧ ∀ n v, fs.lookup n = some v → ∃ u, RelV v u ∧ PySem.W.lookIn n od = some (some u) := by
  obtain ⟨ec, T, dd, ed, ea⟩ := h
  subst ec
  subst ed
  obtain ⟨ha, _⟩ := I.pin (a, oe) (List.mem_append_left _ List.mem_cons_self)
  obtain ⟨vs, hd⟩ := hf
  have hx : ObjOk X.prog X.w H s.heap dd (.xd fs) := I.hok dd _ ea
  obtain ⟨mA, hns, hr⟩ := hx
  obtain ⟨od, ho, hl⟩ := lookIn_ns hns
  have J : PySem.W.InstAt s.heap a oe C (some od) := ⟨ha, hz.1, by unfold PySem.W.notCls; rw [hd] <;> rfl, by rw [hz.2]; exact ho⟩
  refine ⟨od, J, fun n v l => ?_⟩
  obtain ⟨u, hu, ru⟩ := RelO.some_of (v := v) (o := mA n) (by rw [← l]; exact hr n)
  exact ⟨u, ru, by rw [hl, hu]⟩
section
variable {X : Cx} {a : Addr} {oe : Obj} {cls : Value} {d : Option Addr} {pn : List (Addr × Obj)} {e : Expr} {te : TE} {pos : Pos} {n : Str}
/-- e.f -/
def tXfA (K : PySem.W.Frag) (a : Addr) (cls : Value) (d : Option Addr) (f : Str) (te : TE) : TE := fun σ H Q => te σ H fun x H1 => x = .ref a ∧ ∃ (C : Addr) (fs : List (Str × V)) (v : V), Caught K cls d H1 C fs ∧ PySem.W.findIn K (.ref C) f = some none ∧ fs.lookup f = some v ∧ Q v H1
theorem pe_xfA (hz : Zc cls d oe) (hf : ∃ vs, oe.data = .fields vs) (he : PE (X.suite a ((a, oe) :: pn)) e te) (hb : attributeBase e n X.env (eval e X.env) = eval e X.env := by rfl) :
    PE (X.suite a ((a, oe) :: pn)) (.Attribute e n pos) (tXfA X.K a cls d n te) := by
  refine ⟨fun pins s σ H Q I h => ?_⟩
  refine attr_of hb (thn (he.run pins s σ H _ I h) fun u s1 hh => ?_)
  obtain ⟨x, H1, I1, rx, ex, C, fs, v, c, hno, l, q⟩ := hh
  subst ex
  obtain rfl : u = Value.ref a := rx
  obtain ⟨od, J, hl⟩ := caught_at hz hf I1 c
  obtain ⟨u, ru, hu⟩ := hl n v l
  have T := c.2.1
  exact HandSPX.exc_get I1.kIn J T.ga T.gg T.ex (PySem.W.findObj_own T.hd hno rfl hu) (handed_of ru) ⟨v, H1, I1.tok _, ru, q⟩
/-- isinstance(e, c), isinstance(e, (c, ..)) -/
def rIsA (K : PySem.W.Frag) (a : Addr) (cls : Value) (d : Option Addr) : List V → Hp → VK → Prop := fun xs H Q => ∃ (C : Addr) (fs : List (Str × V)) (c : V), xs = [.ref a, c] ∧ Caught K cls d H C fs ∧
  ((∃ (cv : Value) (b : Bool), (∀ u, RelV c u → u = cv) ∧ PySem.W.kitOne K (.ref C) cv = some b ∧ Q (.bl b) H) ∨
    ∃ (t : Addr) (cs : List Addr) (b : Bool), c = .ref t ∧ Tup H t (cs.map V.ref) ∧ PySem.W.kitAny K (.ref C) (cs.map Value.ref) = some b ∧ Q (.bl b) H)
theorem vals_refs : ∀ {cs : List Addr} {us : List Value}, Vals (cs.map V.ref) us → us = cs.map Value.ref
  | [], _, r => by cases r; rfl
  | c :: cs, _, r => by
    cases r with
    | cons r1 r2 =>
      rw [vals_refs r2]
      cases r1
      rfl
theorem call_isA (hz : Zc cls d oe) (hf : ∃ vs, oe.data = .fields vs) : CallR (X.suite a ((a, oe) :: pn)) (.builtin "isinstance") (rIsA X.K a cls d) := by
  intro pins s σ H xs us Q I r h
  obtain ⟨C, fs, c, rfl, k, h⟩ := h
  obtain ⟨od, J, _⟩ := caught_at hz hf I k
  have T := k.2.1
  have Z : PySem.W.KitX X.K (.ref a) (.ref C) (fun h => PySem.W.InstAt h a oe C (some od)) := PySem.W.kitx_exc T.cl T.ga T.gg T.ex T.kl T.kn T.kt T.km
  cases r with
  | cons rx rr =>
    cases rr with
    | cons rt rr =>
      cases rr
      cases rx
      rcases h with ⟨cv, b, hcv, e, q⟩ | ⟨t, cs, b, rfl, tu, e, q⟩
      · have ec := hcv _ rt
        subst ec
        exact PySem.W.kia_one Z I.kIn J e (fun z => nomatch z) fun tk => ⟨.bl b, H, I.kept (t' := tk) fun _ _ z => z, rfl, q⟩
      · cases rt
        obtain ⟨its, n, rv, z, ho⟩ := tu.obj I
        rw [vals_refs rv] at ho
        exact PySem.W.kia_tup Z I.kIn J ho e (fun z => nomatch z) fun tk => ⟨.bl b, H, I.kept (t' := tk) fun _ _ z => z, rfl, q⟩
end
end Wg
namespace Wg
open PySem PySem.Spec PyProof.Rows L2
/-! ### the __init__ of an exception class, walked -/
theorem rd_ini1 {K : PySem.W.Frag} {C : Addr} {f1 m : Str} (T : OexC K C) (n1 : PySem.W.findIn K (.ref C) f1 = some none) {vs : List V} {H : Hp} {Q : VK} {E : XK} {x y : Str} (h : spIni K C [f1] vs H Q E) :
    tSeq (tDrop (tVeI K (tCons (tVar 0) (tCons (tC (.str m)) tNil)))) (tOst K f1 (tVar 0) (tVar 1)) { nx := fun _ H' => Q .non H', rt := Q } (L2.start [x, y] vs) H := by
  obtain ⟨a, ws, rfl, l, ea, q⟩ := h
  match ws, l with
  | [v1], _ =>
    show ∃ x, (some (some (V.ref a)) = some (some x)) ∧ _
    refine ⟨_, rfl, a, C, [.str m], rfl, by show 1 ≤ 1000; decide, T, ea, ?_⟩
    refine ⟨v1, rfl, .ref a, rfl, a, C, rfl, T, n1, .inl ⟨ea, fun d nd ne => ?_⟩⟩
    exact q d _ nd ne upd_same (by rw [upd_ne ne, upd_same]; rfl) fun b h1 h2 => by rw [upd_ne h1, upd_ne h2]
theorem rd_ini2 {K : PySem.W.Frag} {C : Addr} {f1 f2 m : Str} (T : OexC K C) (n1 : PySem.W.findIn K (.ref C) f1 = some none) (n2 : PySem.W.findIn K (.ref C) f2 = some none) {vs : List V} {H : Hp} {Q : VK} {E : XK} {x y z : Str} (h : spIni K C [f1, f2] vs H Q E) :
    tSeq (tDrop (tVeI K (tCons (tVar 0) (tCons (tC (.str m)) tNil)))) (tSeq (tOst K f1 (tVar 0) (tVar 1)) (tOst K f2 (tVar 0) (tVar 2))) { nx := fun _ H' => Q .non H', rt := Q } (L2.start [x, y, z] vs) H := by
  obtain ⟨a, ws, rfl, l, ea, q⟩ := h
  match ws, l with
  | [v1, v2], _ =>
    show ∃ x, (some (some (V.ref a)) = some (some x)) ∧ _
    refine ⟨_, rfl, a, C, [.str m], rfl, by show 1 ≤ 1000; decide, T, ea, ?_⟩
    refine ⟨v1, rfl, .ref a, rfl, a, C, rfl, T, n1, .inl ⟨ea, fun d nd ne => ?_⟩⟩
    refine ⟨v2, rfl, .ref a, rfl, a, C, rfl, T, n2, .inr ⟨d, _, upd_same, by rw [upd_ne ne, upd_same], by show 1 ≤ 900; decide, ?_⟩⟩
    refine q d _ nd ne (by rw [upd_ne (Ne.symm ne), upd_same]) upd_same fun b h1 h2 => by rw [upd_ne h2, upd_ne h1, upd_ne h2]
/-! ### try -/
def tTryAs (K : PySem.W.Frag) (C : Addr) (i : Nat) (tb : WX → TS) (ts : Addr → Value → Option Addr → TS) : TS := fun D σ H => tb (wAs K (.ref C) i ts (fun _ _ _ _ => False) D) D σ H
def tTryOnly (K : PySem.W.Frag) (C : Addr) (tb : WX → TS) (ts : Addr → Value → Option Addr → TS) : TS := fun D σ H => tb (wOnly K (.ref C) ts (fun _ _ _ _ => False) D) D σ H
end Wg

namespace Wg
open PySem PySem.Spec PyProof.Rows L2
/-! ### is True of a thing that may be an object -/
def rIsX : R2 := fun x y H Q => ∃ b : Bool, y = .bl b ∧ ((∃ a : Bool, x = .bl a ∧ Q (.bl (decide (a = b))) H) ∨ (∃ p, x = .ref p ∧ Q (.bl false) H))
def rNotX : R2 := fun x y H Q => ∃ b : Bool, y = .bl b ∧ ((∃ a : Bool, x = .bl a ∧ Q (.bl (!decide (a = b))) H) ∨ (∃ p, x = .ref p ∧ Q (.bl true) H))
section
variable {X : Cx}
theorem op_isX : OpR X (compareOp .Is) rIsX := by
  intro pins s σ H x y v u Q I rx ry h
  obtain ⟨b, rfl, ⟨a, rfl, q⟩ | ⟨p, rfl, q⟩⟩ := h
  · exact op_isBl _ _ _ _ _ _ _ _ _ I rx ry ⟨a, b, rfl, rfl, q⟩
  · cases (show v = Value.ref p from rx)
    cases (show u = Value.bool b from ry)
    exact wpAny_is_other rfl (fun z => nomatch z) ⟨.bl false, H, I, rfl, q⟩
theorem op_notX : OpR X (compareOp .IsNot) rNotX := by
  intro pins s σ H x y v u Q I rx ry h
  obtain ⟨b, rfl, ⟨a, rfl, q⟩ | ⟨p, rfl, q⟩⟩ := h
  · exact op_notBl _ _ _ _ _ _ _ _ _ I rx ry ⟨a, b, rfl, rfl, q⟩
  · cases (show v = Value.ref p from rx)
    cases (show u = Value.bool b from ry)
    exact wpAny_isNot_other rfl (fun z => nomatch z) ⟨.bl true, H, I, rfl, q⟩
end
/-! ### a comprehension over enumerate(list) -/
def CEl (K : PySem.W.Frag) (g : TG) (tt : TT) (te : TE) (vs : List Nat) (σ : L2.St) (Q : VK) (ws : List V) (H1 : Hp) : Prop := ∃ a xs, ws = [.ref a] ∧ SqL K H1 a xs ∧ CB (Ite K a) g tt te vs σ Q H1
theorem e_lcEl {K : PySem.W.Frag} {ta : TA} {g : TG} {tt : TT} {te : TE} {vs : List Nat} {σ : L2.St} {H : Hp} {Q : VK} : tLc (iEnum K ta) g tt te vs σ H Q ↔ ta σ H (CEl K g tt te vs σ Q) := Iff.rfl
theorem g_CEl {K : PySem.W.Frag} {g : TG} {tt : TT} {te : TE} {vs : List Nat} {σ : L2.St} {Q : VK} {H1 : Hp} {a : Addr} {us : List V} (ha : H1 a = some (.lst us)) (P : Nat → Hp → List V → Prop)
    (p0 : ∀ D H2, H1 D = none → Keep [] H1 H2 → P 0 H2 [])
    (ps : ∀ D i x H acc (R : VK) (R0 : Hp → Prop) T H', H1 D = none → us[i]? = some x → Keep [] H1 H' → H' D = some (.lst acc) → Keep [] H H' → P i H acc → H' T = some (.tup [.int (i : Nat), x]) →
      (∀ z H4, Keep [] H' H4 → acc.length < sizeLine → (∀ H5, Keep [D] H4 H5 → P (i + 1) H5 (acc ++ [z])) → R z H4) → (∀ H3, Keep [] H' H3 → P (i + 1) H3 acc → R0 H3) →
      g (.ref T) (wipe σ vs) H' fun σ2 H2 => wipe σ2 vs = wipe σ vs ∧ tt σ2 H2 fun bb H3 => if bb = true then te σ2 H3 R else R0 H3)
    (pd : ∀ D H acc, H1 D = none → Keep [] H1 H → H D = some (.lst acc) → P us.length H acc → Q (.ref D) H) : CEl K g tt te vs σ Q [.ref a] H1 := by
  refine ⟨a, us, rfl, lst_sq ha, fun D hD => ?_⟩
  refine ⟨fun i m H => m = us.length - i ∧ i ≤ us.length ∧ Keep [] H1 H ∧ ∃ acc, H D = some (.lst acc) ∧ P i H acc, ⟨us.length, by omega, by omega, Keep.new hD, [], upd_same, p0 D _ hD (Keep.new hD)⟩, ?_⟩
  rintro i m H ⟨rfl, hi, k, acc, eD, p⟩
  have ta := lst_sq (K := K) (k _ _ nin0 ha)
  by_cases hlt : i < us.length
  · have hx := List.getElem?_eq_getElem hlt
    refine .inr ⟨⟨us, _, ta, hx⟩, fun H' => i + 1 ≤ us.length ∧ Keep [] H1 H' ∧ ∃ acc, H' D = some (.lst acc) ∧ P (i + 1) H' acc, fun H' q => ⟨us.length - (i + 1), by omega, rfl, q⟩, fun v H' y => ?_⟩
    obtain ⟨T, x', rfl, hT, rfl, f1⟩ := y
    have kn : Keep [] H (upd H T (.tup [.int (i : Nat), x'])) := Keep.new hT
    refine ps D i x' H acc _ _ T _ hD (f1 us ta) (k.trans kn) (kn _ _ nin0 eD) kn p upd_same (fun z H4 k4 hz q => ⟨acc, k4 _ _ nin0 (kn _ _ nin0 eD), hz, hlt, (k.trans (kn.trans k4)).past Keep.set hD, _, upd_same, q _ Keep.set⟩) fun H3 k3 q => ⟨hlt, k.trans (kn.trans k3), acc, k3 _ _ nin0 (kn _ _ nin0 eD), q⟩
  · have e : i = us.length := by omega
    subst e
    exact .inl ⟨⟨us, ta, Nat.le_refl _⟩, pd D H acc hD k eD p⟩
end Wg

namespace Wg
open PySem PySem.Spec PyProof.Rows L2
/-! ### for over reversed(list) -/
def FRv (K : PySem.W.Frag) (g : TG) (tb : TS) (D : Ends) (σ : L2.St) (vs : List V) (H1 : Hp) : Prop := ∃ a xs, vs = [.ref a] ∧ SqL K H1 a xs ∧ ∃ W : Nat → Nat → L2.St → Hp → Prop, (∃ m, W 0 m σ H1) ∧ ∀ i m σ H, W i m σ H →
  ((Itv K a xs.length).stop i H ∧ D.nx σ H) ∨ ((Itv K a xs.length).go i H ∧ ∃ N : L2.St → Hp → Prop, (∀ σ' H', N σ' H' → ∃ m', m' < m ∧ W (i + 1) m' σ' H') ∧ ∀ x H', (Itv K a xs.length).yld i H x H' → g x σ H' fun σ2 H2 => tb { D with nx := N, ct := N, bk := D.nx } σ2 H2)
theorem e_forRv {K : PySem.W.Frag} {ta : TA} {g : TG} {tb : TS} {D : Ends} {σ : L2.St} {H : Hp} : tFor (iRev K ta) g tb D σ H ↔ ta σ H (FRv K g tb D σ) := Iff.rfl
theorem g_FRv {K : PySem.W.Frag} {g : TG} {tb : TS} {D : Ends} {σ : L2.St} {H1 : Hp} {a : Addr} {xs : List V} (Pv : Nat → L2.St → Hp → Prop) (h : H1 a = some (.lst xs)) (h0 : Pv 0 σ H1) (hl : ∀ i σ H, i ≤ xs.length → Pv i σ H → H a = some (.lst xs))
    (hs : ∀ i x σ H, i < xs.length → xs[xs.length - 1 - i]? = some x → Pv i σ H → g x σ H fun σ2 H2 => tb { D with nx := Pv (i + 1), ct := Pv (i + 1), bk := D.nx } σ2 H2) (hd : ∀ σ H, Pv xs.length σ H → D.nx σ H) : FRv K g tb D σ [.ref a] H1 := by
  refine ⟨a, xs, rfl, lst_sq h, fun i m σ H => m = xs.length - i ∧ i ≤ xs.length ∧ Pv i σ H, ⟨xs.length, by simp, Nat.zero_le _, h0⟩, ?_⟩
  rintro i m σ H ⟨rfl, hi, p⟩
  have tu := lst_sq (K := K) (hl i σ H hi p)
  by_cases hlt : i < xs.length
  · have hx := List.getElem?_eq_getElem (show xs.length - 1 - i < xs.length by omega)
    refine .inr ⟨⟨hlt, xs, _, tu, hx⟩, Pv (i + 1), fun σ' H' p' => ⟨xs.length - (i + 1), by omega, rfl, hlt, p'⟩, fun x H' y => ?_⟩
    obtain ⟨rfl, hu⟩ := y
    exact hs i x σ H' hlt (hu xs tu) p
  · have e : i = xs.length := by omega
    subst e
    exact .inl ⟨Nat.le_refl _, hd σ H p⟩
end Wg

namespace Wg
open PySem PySem.Spec PyProof.Rows L2
/-! ### startswith -/
section
variable {X : Cx} {o e : Expr} {to te : TE} {apos pos : Pos}
def uStarts : V → List V → Hp → VK → Prop := fun x xs H Q => ∃ a b : Str, x = .str a ∧ xs = [.str b] ∧ Q (.bl (Txt.startswith a b)) H
theorem pe_uStarts (ho : PE X o to) (he : PE X e te) (hs : starEach [e] X.env = [(false, eval e X.env)] := by rfl) (hbase : attributeBase o "startswith" X.env (eval o X.env) = eval o X.env := by rfl) (hline : (apos.endLine == pos.line) = true := by rfl) :
    PE X (.Call (.Attribute o "startswith" apos) [e] [] pos) (tM1 uStarts to te) := pe_m1 PySem.F.slot_str_startswith PySem.F.type_str_startswith mt_startswith ho he hs hbase hline
end
end Wg

/-! Wagon, part 44: exceptions as things: made without being raised, kept behind an except suite, asked for class and fields. -/
namespace Wg
open PySem PySem.Spec PyProof.Rows L2

/-- at a stands an exception of the class cls with the dict d -/
def ExV (cls : Value) (d : Option Addr) (a : Addr) : HO := .ext fun h => ∃ (ob : Obj) (fv : Array Value), h.get? a = some ob ∧ Zc cls d ob ∧ ob.data = .fields fv
theorem exv_ok {P : Program} {w : World} {H : Hp} {h : Heap} {a : Addr} {cls : Value} {d : Option Addr} {ob : Obj} {fv : Array Value} (e : h.get? a = some ob) (z : Zc cls d ob) (f : ob.data = .fields fv) : ObjOk P w H h a (ExV cls d a) :=
  ⟨⟨ob, fv, e, z, f⟩, ⟨ob, e⟩, fun _ _ ⟨o2, v2, q, r⟩ k => ⟨o2, v2, k o2 q, r⟩⟩
theorem exv_at {P : Program} {w : World} {H : Hp} {h : Heap} {a : Addr} {cls : Value} {d : Option Addr} (hok : HOk P w H h) (e : H a = some (ExV cls d a)) : ∃ (ob : Obj) (fv : Array Value), h.get? a = some ob ∧ Zc cls d ob ∧ ob.data = .fields fv := by
  have x : ObjOk P w H h a (.ext fun h => ∃ (ob : Obj) (fv : Array Value), h.get? a = some ob ∧ Zc cls d ob ∧ ob.data = .fields fv) := hok a _ e
  exact x.1
/-- an exception made, as a value -/
def tMkV (t : L2.St → Hp → XK → Prop) : TE := fun σ H Q => t σ H fun cls d H' => ∀ a, H' a = none → Q (.ref a) (upd H' a (ExV cls d a))
theorem pe_mkV {X : Cx} {e : Expr} {t : L2.St → Hp → XK → Prop} (mk : PMk X e t) : PE X e (tMkV t) := by
  refine ⟨fun pins s σ H Q I h => wpAny_mono (mk pins s σ H _ I h) (fun u s1 hu => ?_) fun _ _ z => z⟩
  obtain ⟨a, ob, fv, sI, H', cls, d, rfl, J, k, gone, there, hz, hd, _, na, os, ag, _, q⟩ := hu
  have new : ObjOk X.prog X.w (upd H' a (ExV cls d a)) s1.heap a (ExV cls d a) := exv_ok there hz hd
  exact ⟨.ref a, _, J.call' (ch := []) os (Un.laidN k gone na) (HOk.laidN J.hok k na new) ag (fun _ z => nomatch z), rfl, q a na⟩

/-! ### asked -/
/-- an exception of the class C with the fields fs -/
def ExcAt (K : PySem.W.Frag) (H : Hp) (a C : Addr) (fs : List (Str × V)) : Prop := ExA K C ∧ ∃ d, H a = some (ExV (.ref C) d a) ∧ ((d = none ∧ fs = []) ∨ ∃ dd, d = some dd ∧ H dd = some (.xd fs))
theorem excAt_inst {X : Cx} {pins : List (Addr × Obj)} {σ : L2.St} {H : Hp} {s : Shared} {a C : Addr} {fs : List (Str × V)} (I : Inv X pins σ H s) (h : ExcAt X.K H a C fs) :
    ∃ (ob : Obj) (od : Option Obj), PySem.W.InstAt s.heap a ob C od ∧ ∀ n v, fs.lookup n = some v → ∃ o u, od = some o ∧ RelV v u ∧ PySem.W.lookIn n o = some (some u) := by
  obtain ⟨_, d, ea, hd⟩ := h
  obtain ⟨ob, fv, e, hz, hf⟩ := exv_at I.hok ea
  rcases hd with ⟨rfl, rfl⟩ | ⟨dd, rfl, ed⟩
  · exact ⟨ob, none, ⟨e, hz.1, by unfold PySem.W.notCls; rw [hf] <;> rfl, by rw [hz.2]; trivial⟩, fun n v l => nomatch l⟩
  · have hx : ObjOk X.prog X.w H s.heap dd (.xd fs) := I.hok dd _ ed
    obtain ⟨mA, hns, hr⟩ := hx
    obtain ⟨o2, ho, hl⟩ := lookIn_ns hns
    refine ⟨ob, some o2, ⟨e, hz.1, by unfold PySem.W.notCls; rw [hf] <;> rfl, by rw [hz.2]; exact ho⟩, fun n v l => ?_⟩
    obtain ⟨u, hu, ru⟩ := RelO.some_of (v := v) (o := mA n) (by rw [← l]; exact hr n)
    exact ⟨o2, u, rfl, ru, by rw [hl, hu]⟩
section
variable {X : Cx} {e : Expr} {te : TE} {pos : Pos} {n : Str}
def tXfV (K : PySem.W.Frag) (f : Str) (te : TE) : TE := fun σ H Q => te σ H fun x H1 => ∃ (a C : Addr) (fs : List (Str × V)) (v : V), x = .ref a ∧ ExcAt K H1 a C fs ∧ PySem.W.findIn K (.ref C) f = some none ∧ fs.lookup f = some v ∧ Q v H1
theorem pe_xfV (he : PE X e te) (hb : attributeBase e n X.env (eval e X.env) = eval e X.env := by rfl) : PE X (.Attribute e n pos) (tXfV X.K n te) := by
  refine ⟨fun pins s σ H Q I h => attr_of hb (thn (he.run pins s σ H _ I h) fun u s1 hh => ?_)⟩
  obtain ⟨x, H1, I1, rx, a, C, fs, v, ex, c, hno, l, q⟩ := hh
  subst ex
  obtain rfl : u = Value.ref a := rx
  obtain ⟨ob, od, J, hl⟩ := excAt_inst I1 c
  obtain ⟨o, u, eo, ru, hu⟩ := hl n v l
  subst eo
  have T := c.1
  exact HandSPX.exc_get I1.kIn J T.ga T.gg T.ex (PySem.W.findObj_own T.hd hno rfl hu) (handed_of ru) ⟨v, H1, I1.tok _, ru, q⟩
def rIsV (K : PySem.W.Frag) : List V → Hp → VK → Prop := fun xs H Q => ∃ (a C : Addr) (fs : List (Str × V)) (c : V), xs = [.ref a, c] ∧ ExcAt K H a C fs ∧
  ((∃ (cv : Value) (b : Bool), (∀ u, RelV c u → u = cv) ∧ PySem.W.kitOne K (.ref C) cv = some b ∧ Q (.bl b) H) ∨
    ∃ (t : Addr) (cs : List Addr) (b : Bool), c = .ref t ∧ Tup H t (cs.map V.ref) ∧ PySem.W.kitAny K (.ref C) (cs.map Value.ref) = some b ∧ Q (.bl b) H)
theorem call_isV : CallR X (.builtin "isinstance") (rIsV X.K) := by
  intro pins s σ H xs us Q I r h
  obtain ⟨a, C, fs, c, rfl, k, h⟩ := h
  obtain ⟨ob, od, J, _⟩ := excAt_inst I k
  have T := k.1
  have Z : PySem.W.KitX X.K (.ref a) (.ref C) (fun h => PySem.W.InstAt h a ob C od) := PySem.W.kitx_exc T.cl T.ga T.gg T.ex T.kl T.kn T.kt T.km
  cases r with
  | cons rx rr =>
    cases rr with
    | cons rt rr =>
      cases rr
      cases rx
      rcases h with ⟨cv, b, hcv, e, q⟩ | ⟨t, cs, b, rfl, tu, e, q⟩
      · obtain rfl := hcv _ rt
        exact PySem.W.kia_one Z I.kIn J e (fun z => nomatch z) fun tk => ⟨.bl b, H, I.kept (t' := tk) fun _ _ z => z, rfl, q⟩
      · cases rt
        obtain ⟨its, m, rv, z, ho⟩ := tu.obj I
        rw [vals_refs rv] at ho
        exact PySem.W.kia_tup Z I.kIn J ho e (fun z => nomatch z) fun tk => ⟨.bl b, H, I.kept (t' := tk) fun _ _ z => z, rfl, q⟩
end

/-! ### kept behind the suite -/
def wKp (K : PySem.W.Frag) (c : Value) (i : Nat) (ts : Addr → Value → Option Addr → TS) (Wout : WX) (D : Ends) : WX := fun cls d σ H =>
  ∃ b, PySem.W.exmOne K cls c = some b ∧ (b = false → Wout cls d σ H) ∧ (b = true → ∀ a, H a = none →
    ts a cls d { nx := fun σ2 H2 => D.nx (σ2.set i none) (upd H2 a (ExV cls d a)), rt := fun v H2 => D.rt v (upd H2 a (ExV cls d a)), bk := fun σ2 H2 => D.bk (σ2.set i none) (upd H2 a (ExV cls d a)), ct := fun σ2 H2 => D.ct (σ2.set i none) (upd H2 a (ExV cls d a)) } (σ.set i (some (.ref a))) H)
theorem Inv.track {X : Cx} {pins : List (Addr × Obj)} {σ : L2.St} {H : Hp} {s : Shared} {a : Addr} {ob : Obj} {fv : Array Value} {cls : Value} {d : Option Addr} (I : Inv X pins σ H s) (na : H a = none) (old : X.s_0.heap.get? a = none)
    (there : s.heap.get? a = some ob) (hz : Zc cls d ob) (hf : ob.data = .fields fv) (nL : a ≠ X.env.locals) (np : ∀ p ∈ X.pn ++ pins, p.1 ≠ a) : Inv X pins σ (upd H a (ExV cls d a)) s := by
  have one : ∀ {b : Addr} {o : HO}, H b = some o → b ≠ a := fun {b o} q z => by rw [z, na] at q; cases q
  have out : ∀ {b : Addr} {o : Obj}, X.s_0.heap.get? b = some o → b ≠ a := fun {b o} q z => by rw [z, old] at q; cases q
  refine ⟨I.ok, I.os, I.bare, ⟨I.base.keep, I.base.slot, fun b o q n hx => ?_, I.base.there, fun b xs q => ?_, fun b o u q => ?_, fun b ps q => ?_⟩, I.loc, I.cell, ?_, fun x c hc => ?_, fun p hp => ?_, fun b u q => ?_, I.len⟩
  · rw [upd_ne (out q)]
    exact I.base.free b o q n hx
  · rw [upd_ne (one (I.base.tups b xs q))]
    exact I.base.tups b xs q
  · rw [upd_ne (one (I.base.frzs b o u q))]
    exact I.base.frzs b o u q
  · obtain ⟨m, z⟩ := I.base.tbls b ps q
    exact ⟨m, by rw [upd_ne (one z)]; exact z⟩
  · rw [upd_ne (Ne.symm nL)]
    exact I.free
  · have nc : c ≠ a := fun z => by
      obtain ⟨v, o, ho, hv⟩ := I.cell x c hc
      rw [z, there] at ho
      cases ho
      rw [hf] at hv
      cases hv
    rw [upd_ne nc]
    exact I.freeC x c hc
  · obtain ⟨q1, q2, q3⟩ := I.pin p hp
    exact ⟨q1, by rw [upd_ne (np p hp)]; exact q2, q3⟩
  · by_cases hb : b = a
    · subst hb
      rw [upd_same] at q
      cases q
      exact exv_ok there hz hf
    · rw [upd_ne hb] at q
      exact (I.hok b u q).stay (fun c v _ z => z) (fun c z => by rw [upd_ne (one z)]; exact z) fun c xs z => by rw [upd_ne (one z)]; exact z
section
variable {X : Cx} {x n : Str} {c : Value} {i : Nat} {body suite : List Stmt} {b₀ : Stmt} {np pos pos' : Pos} {tb : WX → TS} {ts : Addr → Value → Option Addr → TS} {Wout : WX}
theorem ps_try_kp (stk : X.stack = X.env :: X.outer) (fr : X.env.frame = some X.env.locals) (dup : X.N.Nodup) (slot : X.N[i]? = some n) (kd : X.env.kindOf n = some .local) (nm : Names X x c) (noex : X.ex = []) (tk : Takes X Wout)
    (bd : ∀ (W : WX) (pn : List (Addr × Obj)) (xe : Value → Shared → Prop), Takes (X.tr pn xe) W → PassesOwn (model X.prog X.w) X.A X.env xe → PSs (X.tr pn xe) body (tb W))
    (su : ∀ (a : Addr) (ob : Obj) (cls : Value) (d : Option Addr) (pn : List (Addr × Obj)), Zc cls d ob → (∃ vs, ob.data = .fields vs) → PSs (X.suite a ((a, ob) :: pn)) (b₀ :: suite) (ts a cls d)) :
    PS X (.Try body [.ExceptHandler (some (.Name x np)) (some n) (b₀ :: suite) pos'] [] [] pos) (fun D σ H => tb (wKp X.K c i ts Wout D) D σ H) := by
  refine ⟨fun pins s σ H D I h => ?_⟩
  have ok := I.ok
  have frs1 : X.A.frames = some (X.env :: X.outer) := by rw [ok.frames, stk]
  refine wpAny_Try_except ?_
  refine wpAny_mono ((bd (wKp X.K c i ts Wout D) (X.pn ++ pins) (fun ev z1 => wpAny (model X.prog X.w) X.A (noteFrame ev X.env) (fun _ z2 => wpAny (model X.prog X.w) X.A (setFlight ev none) (fun _ z3 =>
    wpAny (model X.prog X.w) X.A (handleBy ev X.env [.ExceptHandler (some (.Name x np)) (some n) (b₀ :: suite) pos']) (SP X pins D) X.xe z3) X.xe z2) X.xe z1) (fun u z xx => ?_) PassesOwn.looking).run [] s σ H D (I.toTry _) h) (fun f z1 hsp => ?_) (fun ev z1 he => he)
  · obtain ⟨a, B, sI, pins1, σ1, H1, cls, d, rfl, J1, nb, up, sky, na, os, ag, b, hb1, hno, hyes⟩ := xx
    have J : Inv X pins σ1 H1 sI := J1.ofTry ok
    have sky1 : Sky B (X.env :: X.outer) a (Zc cls d) X.env.locals z.heap := by rw [← stk]; exact sky
    show wpAny (model X.prog X.w) X.A (noteFrame (.ref a) X.env) _ _ _
    refine Sky.land Zc.steady frs1 fr sky1 fun h3 fl3 up3 => ?_
    have Ba : B.get? a = none := fl3.2.1
    have J3 : Inv X pins σ1 H1 { z with heap := h3 } := J.landed nb fl3.1 (up.trans up3) os ag
    obtain ⟨o3, f3, e3, z3, d3⟩ := fl3.there
    have off : a ∉ frs (X.env :: X.outer) := fun hm => by
      obtain ⟨_, o', e', hnf⟩ := fl3.2.2.1.mem hm
      rw [e3] at e'; cases e'
      exact hnf _ d3
    have nL : a ≠ X.env.locals := fun q => off (List.mem_filterMap.mpr ⟨X.env, List.mem_cons_self, by rw [fr, q]⟩)
    have nF : a ∉ X.fs := fun hm => by
      obtain ⟨ev, he, q⟩ := List.mem_filterMap.mp hm
      exact off (List.mem_filterMap.mpr ⟨ev, List.mem_cons_of_mem _ he, q⟩)
    have young : ∀ {b' : Addr} {o : Obj}, sI.heap.get? b' = some o → b' ≠ a := fun {b' o} q w => by
      have q' := nb b' o q (by rw [w, stk]; exact off)
      rw [w, Ba] at q'
      cases q'
    have old : X.s_0.heap.get? a = none := by
      cases q : X.s_0.heap.get? a with
      | none => rfl
      | some o =>
        obtain ⟨o', q'⟩ := J.base.there a o q (by rw [noex]; exact fun w => nomatch w)
        exact absurd rfl (young q')
    have apart : ∀ p ∈ X.pn ++ pins, p.1 ≠ a := fun p hp => young (J.pin p hp).1
    have S3 := J3.suite e3 d3 na nL nF
    refine wpAny_handleBy_cons (codeAny_handlers_test ?_) (by intro q; cases q)
    have LT : PySem.W.Looks (model X.prog X.w) h3 (typeOf (.ref a)) cls := fun A Q E s k q => wpAny_typeOf_ref (k _ _ e3) (by rw [z3.1]; exact q)
    have LM := PySem.W.exm_one (M := model X.prog X.w) (J3.kIn) LT hb1
    have named : ∀ {Q : Value → Shared → Prop} {E : Value → Shared → Prop}, Q c { z with heap := h3 } → wpAny (model X.prog X.w) (X.A.mark (some (.ref a))) (eval (.Name x np) X.env) Q E { z with heap := h3 } := fun {Q E} q => by
      obtain ⟨hg, hdbg, hm | ⟨hm, hv, hnn⟩⟩ := nm
      · exact ld_glob (X := X.suite a ((a, o3) :: (X.pn ++ pins))) S3 hg hm q hdbg
      · exact ld_blt (X := X.suite a ((a, o3) :: (X.pn ++ pins))) S3 hg hm hv q hnn hdbg
    refine named (LM.here ?_)
    cases b with
    | true =>
      refine codeAny_handlers_suite_as ?_
      refine HandSPX.lands_againZ fl3 fun h4 fl4 up4 => ?_
      have J4 : Inv X pins σ1 H1 { z with heap := h4 } := J.landed nb fl4.1 ((up.trans up3).trans up4) os ag
      obtain ⟨o4, f4, e4, z4, d4⟩ := fl4.there
      have S4 := J4.suite e4 d4 na nL nF
      refine store_ok (X := X.suite a ((a, o4) :: (X.pn ++ pins))) (v := .ref a) S4 dup slot (.inl kd) rfl (fun s5 S5 => ?_) (.inr kd)
      refine wpAny_mono ((su a o4 cls d (X.pn ++ pins) z4 ⟨_, d4⟩).run [] s5 _ H1 _ S5 (hyes rfl a na)) (fun f s6 hsp => ?_) (fun _ _ w => False.elim w)
      have fin : ∀ {σ6 : L2.St} {H6 : Hp} {Q : Shared → Prop}, Inv (X.suite a ((a, o4) :: (X.pn ++ pins))) [] σ6 H6 s6 → (∀ s7, Inv X pins (σ6.set i none) (upd H6 a (ExV cls d a)) s7 → Q s7) →
          wpAny (model X.prog X.w) X.A (do bindName X.env n .none; unbindBehindTheSuite X.env n pos') (fun _ s7 => Q s7) X.xe s6 := fun {σ6 H6 Q} S6 hq => by
        obtain ⟨p1, p2, _⟩ := S6.pin (a, o4) (List.mem_append_left _ List.mem_cons_self)
        exact gone_ok (Inv.track (S6.unsuite ok) p2 old p1 z4 d4 nL apart) dup slot kd hq
      cases f with
      | next =>
        obtain ⟨σ6, H6, S6, q6⟩ := hsp
        exact fin S6 fun s7 J7 => ⟨_, _, J7, q6⟩
      | brk =>
        obtain ⟨σ6, H6, S6, q6⟩ := hsp
        exact fin S6 fun s7 J7 => ⟨_, _, J7, q6⟩
      | cont =>
        obtain ⟨σ6, H6, S6, q6⟩ := hsp
        exact fin S6 fun s7 J7 => ⟨_, _, J7, q6⟩
      | ret u =>
        obtain ⟨v6, σ6, H6, S6, r6, q6⟩ := hsp
        exact fin S6 fun s7 J7 => ⟨_, _, _, J7, r6, q6⟩
    | false =>
      show wpAny _ X.A (handleBy (.ref a) X.env []) _ _ _
      refine wpAny_handleBy_nil ?_
      obtain ⟨k1, k2, k3, ob, fv, T, oT, tv, he, hz, hd, h1, hr⟩ := id fl3
      unfold PySem.passOn
      refine wpAny_bind (wpAny_field he hd h1 ?_)
      rw [if_neg (show ¬ ((Value.ref T == Value.none) = true) from by simp)]
      have on : wpAny (model X.prog X.w) X.A (setFlight (.ref a) X.env.frame) (fun _ s4 => wpAny (model X.prog X.w) X.A (throw (.ref a) : Sem Flow) (SP X pins D) X.xe s4) X.xe { z with heap := h3 } := by
        rw [fr]
        refine HandSPX.setFlight_upZ fl3 fun h4 hh4 up4 => wpAny_throw (tk _ _ ?_)
        exact ⟨a, B, sI, pins, σ1, H1, cls, d, rfl, J, nb, (up.trans up3).trans up4, .inr (.inr (by rw [stk]; exact hh4)), na, os, ag, hno rfl⟩
      first
        | exact wpAny_bind (wpAny_pure (wpAny_bind on))
        | exact wpAny_bind on
  · cases f with
    | next =>
      obtain ⟨σ', H', J', q⟩ := hsp
      exact wpAny_execs_nil ⟨σ', H', J'.ofTry ok, q⟩
    | brk =>
      obtain ⟨σ', H', J', q⟩ := hsp
      exact ⟨σ', H', J'.ofTry ok, q⟩
    | cont =>
      obtain ⟨σ', H', J', q⟩ := hsp
      exact ⟨σ', H', J'.ofTry ok, q⟩
    | ret u =>
      obtain ⟨v, σ', H', J', r, q⟩ := hsp
      exact ⟨v, σ', H', J'.ofTry ok, r, q⟩
def tTryKp (K : PySem.W.Frag) (C : Addr) (i : Nat) (tb : WX → TS) (ts : Addr → Value → Option Addr → TS) : TS := fun D σ H => tb (wKp K (.ref C) i ts (fun _ _ _ _ => False) D) D σ H
end
def tMkA (C : Addr) (t : TA) : L2.St → Hp → XK → Prop := fun σ H Q => t σ H fun vs H1 => vs.length ≤ sizeLine ∧ Q (.ref C) none H1
def tRaiseW (W : WX) (t : L2.St → Hp → XK → Prop) : TS := fun _ σ H => t σ H fun cls d H' => W cls d σ H'
end Wg

/-! Wagon, part 45: repr of data in which dicts may stand at any depth. -/
namespace Wg
open PySem PySem.Spec PyProof.Rows L2
mutual
inductive Dr (K : PySem.W.Frag) (H : Hp) : V → PyData → Prop
  | dp {v : V} {d : PyData} : Dp K H v d → Dr K H v d
  | lst {a : Addr} {xs : List V} {ds : List PyData} : H a = some (.lst xs) → DrAll K H xs ds → Dr K H (.ref a) (.list ds)
  | tup {a : Addr} {xs : List V} {ds : List PyData} : Tup H a xs → DrAll K H xs ds → Dr K H (.ref a) (.tuple ds)
  | dic {a : Addr} {kvs : List (Key × V)} {vs : List V} {ds : List PyData} : H a = some (.dK kvs) → vs = kvs.map (·.2) → DrAll K H vs ds → Dr K H (.ref a) (.dict ((kvs.map fun p => keyD p.1).zip ds))
inductive DrAll (K : PySem.W.Frag) (H : Hp) : List V → List PyData → Prop
  | nil : DrAll K H [] []
  | cons {v : V} {vs : List V} {d : PyData} {ds : List PyData} : Dr K H v d → DrAll K H vs ds → DrAll K H (v :: vs) (d :: ds)
end
theorem DrAll.len {K : PySem.W.Frag} {H : Hp} : ∀ {vs : List V} {ds : List PyData}, DrAll K H vs ds → vs.length = ds.length
  | _, _, .nil => rfl
  | _, _, .cons _ r => congrArg (· + 1) r.len
mutual
theorem Dr.keep {K : PySem.W.Frag} {H H' : Hp} (k : Keep [] H H') : ∀ {v : V} {d : PyData}, Dr K H v d → Dr K H' v d
  | _, _, .dp h => .dp (Dp.keep k h)
  | _, _, .lst h a => .lst (k _ _ nin0 h) (DrAll.keep k a)
  | _, _, .tup h a => .tup (h.keep k nin0) (DrAll.keep k a)
  | _, _, .dic h e a => .dic (k _ _ nin0 h) e (DrAll.keep k a)
theorem DrAll.keep {K : PySem.W.Frag} {H H' : Hp} (k : Keep [] H H') : ∀ {vs : List V} {ds : List PyData}, DrAll K H vs ds → DrAll K H' vs ds
  | _, _, .nil => .nil
  | _, _, .cons h r => .cons (Dr.keep k h) (DrAll.keep k r)
end
section
variable {X : Cx} {pins : List (Addr × Obj)} {σ : L2.St} {H : Hp} {s : Shared}
theorem pairs_keys {P : Program} {w : World} {h : Heap} : ∀ {es : List DictEntry} {kvs : List (Key × V)} {us : List (Key × Value)}, PySem.Pairs (mixKind P w) es us → KV kvs us →
    ReadsAll h (es.map (·.key)) (kvs.map fun p => keyD p.1) [] ∧ Vals (kvs.map (·.2)) (es.map (·.val))
  | _, _, _, .nil, .nil => ⟨.nil, .nil⟩
  | e :: es, (k, v) :: kvs, (k', u) :: us, .cons h1 h2 hr, .cons ⟨q1, q2⟩ qr => by
    obtain ⟨r1, r2⟩ := pairs_keys (h := h) hr qr
    have q1' : k = k' := q1
    have q2' : RelV v u := q2
    have hv : e.val = u := h2
    have hk : keyIs k' e.key = true := h1
    subst q1'
    refine ⟨.cons (as := []) (bs := []) ?_ r1, .cons (by show RelV v e.val; rw [hv]; exact q2') r2⟩
    show Reads h e.key (keyD k) []
    rcases keyIs_shape hk with ⟨i, t, rfl, e2⟩ | ⟨x, t, rfl, e2⟩
    · rw [e2]; exact .int i t
    · rw [e2]; exact .str x t
/-- the rows of a dict, told -/
structure ToldD (P : Program) (w : World) (h : Heap) (a : Addr) (o : Obj) (es : Array DictEntry) (n : Nat) (kvs : List (PyData × PyData)) : Prop where
  at_ : h.get? a = some o
  c : o.cls = .type "dict"
  d : o.data = .dict es n
  sy : (a == sysModules) = false
  r : ∃ as, Reads h (.ref a) (.dict kvs) as
  k : PyData.showableKv kvs = true → (dictText (PyData.shownKv kvs)).length ≤ sizeLine → ∃ bs ps, ReadAtMost h (PyData.depthKv kvs) bs ∧ a ∉ bs ∧ PyData.shownKv kvs = ps ∧ ReprEntriesK P w bs h (PyData.depthKv kvs) es.toList ps
theorem toldD (I : Inv X pins σ H s) {a : Addr} {kvs : List (Key × V)} {ds : List PyData} (h : H a = some (.dK kvs)) (l : (kvs.map (·.2)).length = ds.length) (t : ∀ us, Vals (kvs.map (·.2)) us → ToldAll X.prog X.w s.heap us ds) :
    ∃ o es n, ToldD X.prog X.w s.heap a o es n ((kvs.map fun p => keyD p.1).zip ds) := by
  obtain ⟨z, hsy, ws, kv, o, es, ep, ho, ex, hdat, _, hp, _⟩ := I.hok a _ h
  obtain ⟨r1, v2⟩ := pairs_keys (h := s.heap) hp kv
  have tv := t _ v2
  obtain ⟨av, rv⟩ := tv.r
  have lk : (kvs.map fun p => keyD p.1).length = ds.length := by rw [List.length_map, ← List.length_map (f := (·.2)), l]
  have ek : ((kvs.map fun p => keyD p.1).zip ds).map (·.1) = kvs.map fun p => keyD p.1 := List.map_fst_zip (Nat.le_of_eq lk)
  have ev : ((kvs.map fun p => keyD p.1).zip ds).map (·.2) = ds := List.map_snd_zip (Nat.le_of_eq lk.symm)
  have sy : (a == sysModules) = false := by
    refine beq_eq_false_iff_ne.mpr fun e => ?_
    rw [e] at hsy
    simp at hsy
  generalize hkv : (kvs.map fun p => keyD p.1).zip ds = kvd at *
  have rd : Reads s.heap (.ref a) (PyData.dict kvd) (a :: [] ++ av) := .dict ho ex.1 hdat (by rw [ek]; exact r1) (by rw [ev]; exact rv)
  refine ⟨o, es, _, ho, ex.1, hdat, sy, ⟨_, rd⟩, fun hs hz => ?_⟩
  obtain ⟨hs1, hs2⟩ := PyData.showableKv_split kvd hs
  obtain ⟨b1, hb1, k1⟩ := ReprAllK.of_readsAll (prog := X.prog) (w := X.w) (show ReadsAll s.heap (es.toList.map (·.key)) (kvd.map (·.1)) [] by rw [ek]; exact r1) hs1 (fun _ hm => nomatch hm) (fun t ht => let ⟨p, hp, hl⟩ := PyData.shownKv_key_le kvd t ht; Nat.le_trans hl (Nat.le_trans (dictText_mem_le hp) hz))
  obtain ⟨b2, hb2, k2⟩ := tv.k (by rw [← ev]; exact hs2) (fun t ht => let ⟨p, hp, hl⟩ := PyData.shownKv_val_le kvd t (by rw [ev]; exact ht); Nat.le_trans hl (Nat.le_trans (dictText_mem_le hp) hz))
  have hb2' : ReadAtMost s.heap (PyData.depthAll (kvd.map (·.2))) b2 := by rw [ev]; exact hb2
  have hb : ReadAtMost s.heap (PyData.depthKv kvd) (b1 ++ b2) := (hb1.mono (PyData.depthAll_keys_le kvd)).append (hb2'.mono (PyData.depthAll_vals_le kvd))
  have hna : a ∉ b1 ++ b2 := not_mem_of_deeper rd (by simp only [PyData.depth]; omega) hb
  have k2' : ReprAllK X.prog X.w b2 s.heap (PyData.depthAll (kvd.map (·.2))) (es.toList.map (·.val)) (PyData.shownAll (kvd.map (·.2))) := by rw [ev]; exact k2
  exact ⟨b1 ++ b2, _, hb, hna, PyData.shownKv_eq kvd, ReprEntriesK.of_two es.toList _ _ (k1.more_le (fun b hb => List.mem_append_left _ hb) (PyData.depthAll_keys_le kvd)) (k2'.more_le (fun b hb => List.mem_append_right _ hb) (PyData.depthAll_vals_le kvd))⟩
theorem ToldD.told {P : Program} {w : World} {h : Heap} {a : Addr} {o : Obj} {es : Array DictEntry} {n : Nat} {kvs : List (PyData × PyData)} (t : ToldD P w h a o es n kvs) : Told P w h (.ref a) (.dict kvs) := by
  obtain ⟨as, rd⟩ := t.r
  refine ⟨⟨as, rd⟩, fun hs hz => ?_⟩
  obtain ⟨bs, ps, hb, hna, e, k⟩ := t.k (by simpa only [PyData.showable] using hs) (by simpa only [PyData.shown] using hz)
  have eD : (PyData.dict kvs).depth = PyData.depthKv kvs + 1 := by simp only [PyData.depth]
  refine ⟨a :: bs, ReadAtMost.cons rd (by rw [eD]; omega) hb, ?_⟩
  simp only [PyData.depth, PyData.shown]
  rw [e]
  exact ReprK.dict t.at_ t.c t.d t.sy hna k
mutual
theorem Dr.told (I : Inv X pins σ H s) : ∀ {d : PyData} {v : V} {u : Value}, Dr X.K H v d → RelV v u → Told X.prog X.w s.heap u d
  | _, _, _, .dp h, r => told_dp I h r
  | _, _, _, .lst hs ha, r => by
    cases r
    obtain ⟨its, rv, ⟨o, n, ho, hc, _, hd⟩, _⟩ := I.list (lst_sq (K := X.K) hs)
    exact Told.list ho hc hd (DrAll.told I ha rv)
  | _, _, _, .tup hs ha, r => by
    cases r
    obtain ⟨its, n, rv, _, ho⟩ := hs.obj I
    exact Told.tuple ho rfl rfl (DrAll.told I ha rv)
  | _, _, _, .dic hs e ha, r => by
    cases r
    obtain ⟨o, es, n, t⟩ := toldD I hs (by rw [← e]; exact ha.len) fun us rv => DrAll.told I ha (by rw [e]; exact rv)
    exact t.told
theorem DrAll.told (I : Inv X pins σ H s) : ∀ {ds : List PyData} {vs : List V} {us : List Value}, DrAll X.K H vs ds → Vals vs us → ToldAll X.prog X.w s.heap us ds
  | _, _, _, .nil, r => by
    cases r
    exact ToldAll.none
  | _, _, _, .cons h1 h2, r => by
    cases r with
    | cons r1 r2 => exact ToldAll.more (Dr.told I h1 r1) (DrAll.told I h2 r2)
end
end
def uReprX (K : PySem.W.Frag) : List V → Hp → VK → Prop := fun xs H Q => ∃ (v : V) (d : PyData), xs = [v] ∧ Dr K H v d ∧ fine d ∧ d.depth ≤ 100 ∧ cost d ≤ 10000000 ∧ Q (.str d.shown) H
theorem call_uReprX {X : Cx} (hr : Rm 1 X.A) : CallR X (.builtin "repr") (uReprX X.K) := by
  intro pins s σ H xs us Q I r h
  obtain ⟨v, d, rfl, hd, hf, hdep, hz, q⟩ := h
  have hs := fine_show hf
  have hz' : d.shown.length ≤ sizeLine := Nat.le_trans (shown_le hf) (line_big hz)
  have hu : X.A.units + (d.depth + 1) < cLine := by
    have := hr.rm.un
    omega
  have dpc : ∀ {v : V} {d : PyData}, Dp X.K H v d → d.showable = true → d.depth ≤ 100 → d.shown.length ≤ sizeLine → Q (.str d.shown) H → Vals [v] us → wpAny (model X.prog X.w) X.A (call (.builtin "repr") us) (EP X pins σ Q) X.xe s :=
    fun {v d} h1 h2 h3 h4 q r => call_uRep hr pins s σ H _ us Q I r (.inl ⟨v, d, rfl, h1, h2, h3, h4, q⟩)
  cases hd with
  | dp h => exact dpc h hs hdep hz' q r
  | @lst a xs ds hl ha =>
    cases ha with
    | nil => exact dpc (.lst (lst_sq hl) .nil) hs hdep hz' q r
    | @cons v0 vs d0 ds h0 h1 =>
      obtain ⟨u, rfl, rx⟩ := vals1 r
      cases rx
      obtain ⟨its, rv, ⟨o, n, ho, hc, _, hdt⟩, _⟩ := I.list (lst_sq (K := X.K) hl)
      have t := DrAll.told I (.cons h0 h1) rv
      have eS : (PyData.list (d0 :: ds)).shown = listText (PyData.shownAll (d0 :: ds)) := by simp only [PyData.shown]
      have eD : (PyData.list (d0 :: ds)).depth = PyData.depthAll (d0 :: ds) + 1 := by simp only [PyData.depth]
      rw [eS] at hz'
      obtain ⟨as, ra⟩ := t.r
      obtain ⟨bs, hb, hk⟩ := t.k (by simpa only [PyData.showable] using hs) fun x hx => Nat.le_trans (listText_mem_le hx) hz'
      have rr : Reads s.heap (.ref a) (.list (d0 :: ds)) (a :: as) := .list ho hc hdt ra
      have hna : a ∉ bs := not_mem_of_deeper rr (by rw [eD]; omega) hb
      cases its with
      | nil => cases rv
      | cons x l =>
        refine call_repr_slot (T := "list") (idr := "list.__repr__") (by omega) ⟨_, ho, hc⟩ F.slot_list_repr.toG (call_list_reprK ho hc hdt hna (by simpa using hk.length_eq) (fun i y q => hk.item i y (by simpa using q)) hr.gd (fun b _ => Clear.nil b) (by show X.A.units + 1 + _ < cLine; omega) (fun _ _ e => e) (fun h' u tk hkp => ⟨_, _, rfl, ?_⟩) hz')
        rw [← eS]
        exact ⟨.str _, H, I.kept (t' := tk) hkp, ⟨_, rfl⟩, q⟩
  | @tup a xs ds ht ha =>
    obtain ⟨u, rfl, rx⟩ := vals1 r
    cases rx
    obtain ⟨its, n, rv, _, ho⟩ := ht.obj I
    have t := DrAll.told I ha rv
    have eS : (PyData.tuple ds).shown = tupleText (PyData.shownAll ds) := by simp only [PyData.shown]
    have eD : (PyData.tuple ds).depth = PyData.depthAll ds + 1 := by simp only [PyData.depth]
    rw [eS] at hz'
    obtain ⟨as, ra⟩ := t.r
    obtain ⟨bs, hb, hk⟩ := t.k (by simpa only [PyData.showable] using hs) fun x hx => Nat.le_trans (tupleText_mem_le hx) hz'
    have rr : Reads s.heap (.ref a) (.tuple ds) as := .tuple ho rfl rfl ra
    have hna : a ∉ bs := not_mem_of_deeper rr (by rw [eD]; omega) hb
    refine call_repr_slot (T := "tuple") (idr := "tuple.__repr__") (by omega) ⟨_, ho, rfl⟩ F.slot_tuple_repr (call_tuple_reprK ho rfl rfl hna hk hr.gd (fun b _ => Clear.nil b) (by show X.A.units + 1 + _ < cLine; omega) (fun _ _ e => e) (fun h' u tk hkp => ⟨_, _, rfl, ?_⟩) hz')
    rw [← eS]
    exact ⟨.str _, H, I.kept (t' := tk) hkp, ⟨_, rfl⟩, q⟩
  | @dic a kvs vs ds h e ha =>
    obtain ⟨u, rfl, rx⟩ := vals1 r
    cases rx
    obtain ⟨o, es, n, t⟩ := toldD I h (by rw [← e]; exact ha.len) fun us rv => DrAll.told I ha (by rw [e]; exact rv)
    generalize (kvs.map fun p => keyD p.1).zip ds = kvd at *
    have eS : (PyData.dict kvd).shown = dictText (PyData.shownKv kvd) := by simp only [PyData.shown]
    have eD : (PyData.dict kvd).depth = PyData.depthKv kvd + 1 := by simp only [PyData.depth]
    rw [eS] at hz'
    obtain ⟨bs, ps, hb, hna, ep, hk⟩ := t.k (by simpa only [PyData.showable] using hs) hz'
    rw [ep] at hz' eS
    refine call_repr_slot (T := "dict") (idr := "dict.__repr__") (by omega) ⟨_, t.at_, t.c⟩ F.slot_dict_repr (call_dict_reprK t.at_ t.c t.d t.sy hna hk hr.gd (fun b _ => Clear.nil b) (by show X.A.units + 1 + _ < cLine; omega) (fun _ _ e => e) (fun h' u tk hkp => ⟨_, _, rfl, ?_⟩) hz')
    rw [← eS]
    exact ⟨.str _, H, I.kept (t' := tk) hkp, ⟨_, rfl⟩, q⟩
theorem g_repX {K : PySem.W.Frag} {H : Hp} {v : V} {d : PyData} {Q : VK} (h : Dr K H v d) (f : fine d) (l : d.depth ≤ 100) (c : cost d ≤ 10000000) (q : Q (.str d.shown) H) : uReprX K [v] H Q := ⟨v, d, rfl, h, f, l, c, q⟩
end Wg

namespace Wg
open PySem PySem.Spec PyProof.Rows L2
/-! ### exceptions as things -/
def MkV (K : PySem.W.Frag) (C : Addr) (fs : List Str) (ws : List V) (H : Hp) (Q : VK) : Prop := ws.length ≤ 1000 ∧ ∀ a, H a = none → spIni K C fs (.ref a :: (ws ++ [])) (upd H a (exo a C none))
  (fun v H2 => v = .non ∧ ∃ (d : Addr) (gs : List (Str × V)), H2 a = some (exo a C (some d)) ∧ H2 d = some (exd d gs) ∧ H d = none ∧ ∀ a2, (upd (del H2 a) d (.xd gs)) a2 = none → Q (.ref a2) (upd (upd (del H2 a) d (.xd gs)) a2 (ExV (.ref C) (some d) a2))) (fun _ _ _ => False)
theorem e_mkV {K : PySem.W.Frag} {C : Addr} {fs : List Str} {ta : TA} {σ : L2.St} {H : Hp} {Q : VK} : tMkV (tMkO C (spIni K C fs) [] ta) σ H Q ↔ ta σ H (fun vs H1 => MkV K C fs vs H1 Q) := Iff.rfl
def MkA (C : Addr) (ws : List V) (H : Hp) (Q : VK) : Prop := ws.length ≤ sizeLine ∧ ∀ a, H a = none → Q (.ref a) (upd H a (ExV (.ref C) none a))
theorem e_mkA {C : Addr} {ta : TA} {σ : L2.St} {H : Hp} {Q : VK} : tMkV (tMkA C ta) σ H Q ↔ ta σ H (fun vs H1 => MkA C vs H1 Q) := Iff.rfl
def RaW (K : PySem.W.Frag) (W : WX) (C : Addr) (fs : List Str) (σ : L2.St) (ws : List V) (H : Hp) : Prop := ws.length ≤ 1000 ∧ ∀ a, H a = none → spIni K C fs (.ref a :: (ws ++ [])) (upd H a (exo a C none))
  (fun v H2 => v = .non ∧ ∃ (d : Addr) (gs : List (Str × V)), H2 a = some (exo a C (some d)) ∧ H2 d = some (exd d gs) ∧ H d = none ∧ W (.ref C) (some d) σ (upd (del H2 a) d (.xd gs))) (fun _ _ _ => False)
theorem e_raW {K : PySem.W.Frag} {W : WX} {C : Addr} {fs : List Str} {ta : TA} {D : Ends} {σ : L2.St} {H : Hp} : tRaiseW W (tMkO C (spIni K C fs) [] ta) D σ H ↔ ta σ H (fun vs H1 => RaW K W C fs σ vs H1) := Iff.rfl
/-- an exception of the class C with the fields fs, as it stands in the heap -/
def EAt (H : Hp) (a C : Addr) (fs : List (Str × V)) : Prop := ∃ d, H a = some (ExV (.ref C) d a) ∧ ((d = none ∧ fs = []) ∨ ∃ dd, d = some dd ∧ H dd = some (.xd fs))
theorem EAt.keep {H H' : Hp} {a C : Addr} {fs : List (Str × V)} (h : EAt H a C fs) (k : Keep [] H H') : EAt H' a C fs := by
  obtain ⟨d, e, h⟩ := h
  refine ⟨d, k _ _ nin0 e, ?_⟩
  rcases h with h | ⟨dd, ed, h⟩
  · exact .inl h
  · exact .inr ⟨dd, ed, k _ _ nin0 h⟩
theorem EAt.ea {K : PySem.W.Frag} {H : Hp} {a C : Addr} {fs : List (Str × V)} (h : EAt H a C fs) (T : ExA K C) : ExcAt K H a C fs := ⟨T, h⟩
theorem g_mkV {K : PySem.W.Frag} {C : Addr} {fs : List Str} {ws : List V} {H : Hp} {Q : VK} (l : ws.length = fs.length) (l2 : ws.length ≤ 1000) (q : ∀ a H', Keep [] H H' → EAt H' a C (fs.zip ws).reverse → Q (.ref a) H') : MkV K C fs ws H Q := by
  refine g_mkO (σ := []) (Q := fun cls d H' => ∀ a, H' a = none → Q (.ref a) (upd H' a (ExV cls d a))) l l2 fun d nd a na => ?_
  have ne : d ≠ a := fun z => by rw [← z, upd_same] at na; cases na
  refine q a _ ((Keep.new nd).trans (Keep.new na)) ⟨some d, upd_same, .inr ⟨d, rfl, ?_⟩⟩
  rw [upd_ne ne, upd_same]
theorem g_mkA {C : Addr} {ws : List V} {H : Hp} {Q : VK} (l : ws.length ≤ 1000) (q : ∀ a H', Keep [] H H' → EAt H' a C [] → Q (.ref a) H') : MkA C ws H Q :=
  ⟨len_le (by omega), fun a na => q a _ (Keep.new na) ⟨none, upd_same, .inl ⟨rfl, rfl⟩⟩⟩
theorem rel_refX {C : Addr} : ∀ u, RelV (.ref C) u → u = .ref C := fun u r => r
theorem rel_tyX {T : String} : ∀ u, RelV (.ty T) u → u = .type T := fun u r => r
theorem g_isV {K : PySem.W.Frag} {H : Hp} {a C c : Addr} {fs : List (Str × V)} {b : Bool} {Q : VK} (h : ExcAt K H a C fs) (k : PySem.W.kitOne K (.ref C) (.ref c) = some b) (q : Q (.bl b) H) : rIsV K [.ref a, .ref c] H Q :=
  ⟨a, C, fs, .ref c, rfl, h, .inl ⟨_, b, rel_refX, k, q⟩⟩
theorem g_isVT {K : PySem.W.Frag} {H : Hp} {a C : Addr} {T : String} {fs : List (Str × V)} {b : Bool} {Q : VK} (h : ExcAt K H a C fs) (k : PySem.W.kitOne K (.ref C) (.type T) = some b) (q : Q (.bl b) H) : rIsV K [.ref a, .ty T] H Q :=
  ⟨a, C, fs, .ty T, rfl, h, .inl ⟨_, b, rel_tyX, k, q⟩⟩
def XfV (K : PySem.W.Frag) (f : Str) (Q : VK) (x : V) (H1 : Hp) : Prop := ∃ (a C : Addr) (fs : List (Str × V)) (v : V), x = .ref a ∧ ExcAt K H1 a C fs ∧ PySem.W.findIn K (.ref C) f = some none ∧ fs.lookup f = some v ∧ Q v H1
theorem e_xfV {K : PySem.W.Frag} {f : Str} {te : TE} {σ : L2.St} {H : Hp} {Q : VK} : tXfV K f te σ H Q ↔ te σ H (XfV K f Q) := Iff.rfl
theorem g_xfV {K : PySem.W.Frag} {f : Str} {a C : Addr} {fs : List (Str × V)} {v : V} {H : Hp} {Q : VK} (h : ExcAt K H a C fs) (no : PySem.W.findIn K (.ref C) f = some none) (l : fs.lookup f = some v) (q : Q v H) : XfV K f Q (.ref a) H := ⟨a, C, fs, v, rfl, h, no, l, q⟩
end Wg

/-! Wagon, part 47: sorted of a tuple of alike data. -/
namespace Wg
open PySem PySem.Spec PyProof.Rows PySem.W
section
variable {prog : Program} {w : World} {A : Around} {E : Value → Shared → Prop} {s : Shared} {l : Addr} {vs : List Value} {ob : Obj} {n : Nat}
theorem collect_tupV {Q : List Value → Shared → Prop} (at_ : s.heap.get? l = some ob) (cl_ : ob.cls = .type "tuple") (dt : ob.data = .seq vs.toArray n) (few : vs.length ≤ sizeLine)
    (q : Q vs { s with heap := (s.heap.push (seqObj "list" #[] 0)).update s.heap.objs.size (Obj.mapSeq (· ++ vs.toArray)) }) : wpAny (model prog w) A (collect (.ref l)) Q E s := by
  unfold collect
  refine wpAny_bind (wpAny_runValue (codeAny_builtin entry_proto_collect' ?_))
  show wpAny _ _ (do again (.builtin "list.__iadd__" ⟨[← newList [], .ref l], []⟩)) _ _ s
  refine wpAny_bind (wpAny_newList (wpAny_pure ⟨Code.quiet_builtin _ (by decide +kernel), codeAny_builtin entry_list_iadd' ?_⟩))
  show wpAny _ _ (Builtin.List.listExtendWith (.ref s.heap.objs.size) (.ref l) (.ref s.heap.objs.size)) _ _ { s with heap := s.heap.push (seqObj "list" #[] 0) }
  unfold Builtin.List.listExtendWith
  have at2 : (s.heap.push (seqObj "list" #[] 0)).get? l = some ob := Heap.get?_push_of_some _ at_
  refine wpAny_bind (wpAny_typeOf (T := "tuple") ⟨ob, at2, cl_⟩ ?_)
  have same : (Value.type "tuple" == Value.type "tuple") = true := by rfl
  rw [if_pos (by rw [same]; simp)]
  refine wpAny_bind (listItems_at at2 dt ?_)
  refine wpAny_bind (listItems_at (xs := #[]) (n := 0) (Heap.get?_push_size _ rfl) rfl ?_)
  rw [if_neg (by simp)]
  refine wpAny_bind (listUpdate_at (xs := #[]) (n := 0) (Heap.get?_push_size _ rfl) rfl ?_ (Nat.zero_le _) (by show (#[] ++ vs.toArray).size ≤ sizeLine + 1; simp only [Array.size_append, List.size_toArray, List.length_nil]; omega))
  refine wpAny_pure ?_
  show wpAny (model prog w) A (do
      let o ← load s.heap.objs.size
      match o.data with
      | .seq xs _ => pure xs.toList
      | _ => unsupported "internal:collect") Q E { s with heap := (s.heap.push (seqObj "list" #[] 0)).update s.heap.objs.size (Obj.mapSeq (· ++ vs.toArray)) }
  refine wpAny_bind (wpAny_load (get?_update_seq (Heap.get?_push_size _ rfl) _) ?_)
  show wpAny _ _ (pure ((#[] : Array Value) ++ vs.toArray).toList) Q E _
  rw [show ((#[] : Array Value) ++ vs.toArray).toList = vs by simp]
  exact wpAny_pure q
theorem sortT_vals {κ : PyProof.Rows.KeyKind} {Q : Value → Shared → Prop} (at_ : s.heap.get? l = some ob) (cl_ : ob.cls = .type "tuple") (dt : ob.data = .seq vs.toArray n) (few : vs.length ≤ sizeLine)
    (S : SortsAt prog w A.in1.in1 { s with heap := sortingHeap (copyHeap s.heap vs) (s.heap.objs.size + 1) vs } κ vs)
    (q : Q (.ref (s.heap.objs.size + 1)) { s with heap := sortedAll s.heap vs (sortVals κ false vs vs).toArray }) : wpAny (model prog w) A (call (.builtin "sorted") [.ref l]) Q E s := by
  refine call_function_entry_kw kind_sorted plain_sorted entry_sorted (args_sorted1 _) ?_
  unfold Builtin.«sorted»
  refine wpAny_bind (m := checkCount "sorted" 1 1 _) (wpAny_pure ?_)
  refine wpAny_bind (collect_tupV at_ cl_ dt few ?_)
  refine wpAny_bind (wpAny_newList ?_ few)
  have sz : ((s.heap.push (seqObj "list" #[] 0)).update s.heap.objs.size (Obj.mapSeq (· ++ vs.toArray))).objs.size = s.heap.objs.size + 1 := by
    rw [Heap.size_update, size_push']
  show wpAny _ _ _ _ _ { s with heap := copyHeap s.heap vs }
  rw [sz]
  refine wpAny_bind (wpAny_holding (wpAny_call_entry_kw slot_list_sort ⟨_, copyHeap_at s.heap vs, rfl⟩ entry_list_sort ?_ (args_list_sort _)))
  show wpAny (model prog w) A.in1.in1 (Builtin.«list.sort» ⟨[.ref (s.heap.objs.size + 1)], []⟩) _ _ _
  refine wpAny_mono (list_sort_vals (s := { s with heap := copyHeap s.heap vs }) (P := fun f s' => f = .done (.ret .none) ∧ Q (.ref (s.heap.objs.size + 1)) s') (copyHeap_at s.heap vs) S few ⟨rfl, q⟩) (fun f s' hf => ?_) fun _ _ e => e
  obtain ⟨rfl, hq⟩ := hf
  exact ⟨_, rfl, wpAny_pure ⟨_, rfl, hq⟩⟩
theorem sortT_data {β : Type} {R : Value → β → Prop} {enc : β → PyData} {bs : List β} {Q : Value → Shared → Prop} (at_ : s.heap.get? l = some ob) (cl_ : ob.cls = .type "tuple") (dt : ob.data = .seq vs.toArray n) (e : EachIs R vs bs) (er : EachIs (fun v b => ∃ as, Reads s.heap v (enc b) as) vs bs)
    (hal : AllAlike (bs.map enc)) (hk : Sortable (bs.map enc)) (few : bs.length ≤ sizeLine) (hu : ∀ b, b ∈ bs → A.units + 2 + (enc b).depth < cLine)
    (q : ∀ out, out.length = bs.length → EachIs R out (bs.mergeSort (dataLe false enc)) → Q (.ref (s.heap.objs.size + 1)) { s with heap := sortedAll s.heap vs (List.toArray out) }) :
    wpAny (model prog w) A (call (.builtin "sorted") [.ref l]) Q E s := by
  have er2 : EachIs (fun v b => ∃ as, Reads (sortingHeap (copyHeap s.heap vs) (s.heap.objs.size + 1) vs) v (enc b) as) vs bs := er.mono fun _ _ ⟨as, r⟩ => ⟨as, PyProof.Rows.Reads.keeps (fun _ _ => sorting_copy_old) r⟩
  exact sortT_vals at_ cl_ dt (by rw [e.length]; exact few) (SortsAt.data (s := { s with heap := sortingHeap (copyHeap s.heap vs) (s.heap.objs.size + 1) vs }) (each_map (R := fun v d => ∃ as, Reads (sortingHeap (copyHeap s.heap vs) (s.heap.objs.size + 1) vs) v d as) enc er2) hal hk (bound_map hu))
    (q _ (by rw [sortVals_length false rfl]; exact e.length) (sortVals_data false e er2 hal))
end
end Wg
namespace Wg
open PySem PySem.Spec PyProof.Rows L2
/-- sorted(tuple of alike data) -/
def uSortedT (K : PySem.W.Frag) : List V → Hp → VK → Prop := fun vs H Q => ∃ (α : Type) (RR : V → α → Prop) (enc : α → PyData) (a : Addr) (xs : List V) (rs : List α), vs = [.ref a] ∧ Tup H a xs ∧ PySem.W.EachIs RR xs rs ∧ xs.length ≤ 1000 ∧
  (∀ x r, RR x r → Dp K H x (enc r)) ∧ PySem.W.AllAlike (rs.map enc) ∧ PySem.W.Sortable (rs.map enc) ∧ (∀ r ∈ rs, (enc r).depth ≤ 50) ∧
  ∀ ys, ys.length = xs.length → PySem.W.EachIs RR ys (rs.mergeSort (PySem.W.dataLe false enc)) → Mk H (.lst ys) Q
theorem call_uSortedT {X : Cx} (hu : X.A.units + 64 < cLine) : CallR X (.builtin "sorted") (uSortedT X.K) := by
  intro pins s σ H vs us Q I r h
  obtain ⟨α, RR, enc, a, xs, rs, rfl, ht, he, few, hd, ha, hk, hdp, q⟩ := h
  obtain ⟨its, n, rv, _, ho⟩ := ht.obj I
  obtain ⟨u, rfl, ru⟩ := vals1 r
  obtain rfl : u = Value.ref a := ru
  have er := each_vals rv he
  have lz : rs.length ≤ sizeLine := len_le (by rw [← he.length]; omega)
  refine sortT_data (R := fun u r => ∃ x, RelV x u ∧ RR x r) ho rfl rfl er (er.mono fun u r ⟨x, h1, h2⟩ => Dp.reads I _ _ _ (hd x r h2) h1) ha hk lz (fun b hb => by have := hdp b hb; omega) fun out lo eo => ?_
  obtain ⟨ys, v1, e1⟩ := vals_each eo
  obtain ⟨m, hm⟩ := sortedAll_at s.heap its (List.toArray out)
  have hly : ys.length = xs.length := by rw [v1.length, lo, he.length]
  refine ⟨.ref (s.heap.objs.size + 1), upd H (s.heap.objs.size + 1) (.lst ys), I.laid (t' := s.toks) (fun b o e => sortedAll_old e) (Nat.le_succ _) ⟨by rw [hly, he.length]; exact lz, out, m, v1, hm⟩, rfl, ?_⟩
  have nf := I.hok.fresh (Nat.le_succ s.heap.objs.size)
  exact q ys hly e1 _ _ nf (Keep.new nf) upd_same
end Wg

/-! Wagon, part 48: anything asked in a tuple of texts; any list held against the empty list. -/
namespace Wg
open PySem PySem.Spec PyProof.Rows L2
theorem str_eq_declines_dict (b : Str) (u : Tok) (a : Addr) (cls : Value) (dd : Option Addr) (es : Array DictEntry) (n : Nat) (sl : Array (Option Value)) : Meets (Builtin.«str.__eq__» { pos := [Value.str b u, Value.ref a] }) fun x R s =>
    s.heap.get? a = some ⟨cls, dd, .dict es n, sl⟩ ∧ R (Except.ok (Flow.ret Value.notImplemented)) s := by
  refine Meets.of_wp fun prog w A R s h => ?_
  obtain ⟨hp, g, d, tk, os⟩ := s
  obtain ⟨hl, h⟩ := h
  refine wpAny_bind (wpAny_bind ?_)
  unfold slotArgs
  refine wpAny_ite_false rfl (wpAny_ite_false rfl (wpAny_pure ?_))
  refine wpAny_bind ?_
  refine wpAny_pure ?_
  refine wpAny_pure ?_
  refine wpAny_bind ?_
  refine wpAny_bind ?_
  refine wpAny_load hl ?_
  refine wpAny_pure (wpAny_bind (wpAny_rule ?_))
  exact wpAny_pure ⟨_, rfl, h⟩
theorem dict_eq_declines_str (a : Addr) (o : Obj) (b : Str) (u : Tok) : Meets (Builtin.«dict.__eq__» { pos := [Value.ref a, Value.str b u] }) fun x R s =>
    s.heap.get? a = some o ∧ R (Except.ok (Flow.ret Value.notImplemented)) s := by
  refine Meets.of_wp fun prog w A R s h => ?_
  obtain ⟨ho, h⟩ := h
  have f1 := F.sub_str_dict
  refine wpAny_bind (wpAny_bind ?_)
  unfold Builtin.Dict.notOrdered
  refine wpAny_ite_false (by decide +kernel) (wpAny_pure (wpAny_bind ?_))
  unfold slotArgs
  refine wpAny_ite_false rfl (wpAny_ite_false rfl (wpAny_pure (wpAny_pure ?_)))
  refine wpAny_bind ?_
  refine wpAny_bind (wpAny_pure (wpAny_of_eq f1 ?_))
  refine wpAny_ite_true rfl (wpAny_bind (wpAny_rule ?_))
  exact wpAny_pure ⟨_, rfl, h⟩
theorem rc_str_dict {A : Around} {s : Shared} {a : Addr} {dd : Option Addr} {es : Array DictEntry} {n : Nat} {sl : Array (Option Value)} (b : Str) (u : Tok) (ho : s.heap.get? a = some ⟨.type "dict", dd, .dict es n, sl⟩) (hu : A.units < cLine) : SeqAt.RcAt A s (Value.str b u) (Value.ref a) false := fun prog w E Q h =>
  SeqAt.rc_eq_decline_or (typeIs_str s b u) ⟨_, ho, rfl⟩ (by decide) F.sub_dict_str F.slot_str_eq F.slot_dict_eq_refl
    (fun x hq => call_meets F.slot_str_eq (typeIs_str s b u) F.entry_str_eq (F.args_str_eq_2 _ _) (str_eq_declines_dict b u a _ dd es n sl) ⟨ho, hq⟩)
    (fun x hq => call_meets F.slot_dict_eq_refl ⟨_, ho, rfl⟩ F.entry_dict_eq (F.args_dict_eq_2 _ _) (dict_eq_declines_str a _ b u) ⟨ho, hq⟩)
    (fun x hq => wpAny_of_eq rfl hq) (.inr hu) h
theorem eq_str_dict {A : Around} {s : Shared} {a : Addr} {dd : Option Addr} {es : Array DictEntry} {n : Nat} {sl : Array (Option Value)} (b : Str) (u : Tok) (ho : s.heap.get? a = some ⟨.type "dict", dd, .dict es n, sl⟩) (hu : A.units < cLine) : SeqAt.EqAt A s (Value.str b u) (Value.ref a) false := fun prog w E Q h => by
  unfold eqBool
  exact wpAny_holding (wpAny_ite_split (fun hab => absurd (eq_of_beq hab) fun a => nomatch a) fun x => wpAny_bind (rc_str_dict b u ho hu prog w E _ (wpAny_truthy_bool h)))
/-- any data that lies in the heap -/
def AnyV (H : Hp) (x : V) : Prop := flatV x = true ∨ (∃ l xs, x = .ref l ∧ H l = some (.lst xs)) ∨ (∃ l xs, x = .ref l ∧ Tup H l xs) ∨ ∃ l kvs, x = .ref l ∧ H l = some (.dK kvs)
def inX (x : V) (ys : List Str) : Bool := match x with
  | .str z => decide (z ∈ ys)
  | _ => false
theorem flat_strsX (ys : List Str) : (ys.map V.str).all flatV = true := by
  rw [List.all_map]
  exact List.all_eq_true.mpr fun _ _ => rfl
theorem inV_inX {x : V} (ys : List Str) (f : flatV x = true) : inV x (ys.map V.str) = inX x ys := by
  induction ys with
  | nil => cases x <;> first | rfl | cases f
  | cons y ys ih =>
    have e : inV x ((y :: ys).map V.str) = (eqV (.str y) x || inV x (ys.map V.str)) := rfl
    rw [e, ih]
    cases x with
    | str z =>
      show (eqV (.str y) (.str z) || decide (z ∈ ys)) = decide (z ∈ y :: ys)
      by_cases h : z = y
      · subst h; simp [eqV]
      · have h' : ¬ y = z := fun q => h q.symm
        simp [eqV, h, h']
    | non => rfl
    | bl b => rfl
    | int i => rfl
    | _ => cases f
def uInX (K : PySem.W.Frag) (neg : Bool) : R2 := fun x y H Q => ∃ a ys, y = .ref a ∧ Tup H a (ys.map V.str) ∧ AnyV H x ∧ Q (.bl (if neg then !inX x ys else inX x ys)) H
section
variable {X : Cx}
theorem strs_vals : ∀ {ys : List Str} {its : List Value}, Vals (ys.map V.str) its → ∀ w ∈ its, ∃ z t, w = Value.str z t
  | [], _, .nil, w, h => (List.not_mem_nil h).elim
  | y :: ys, _, .cons r q, w, h => by
    rcases List.mem_cons.mp h with rfl | h
    · obtain ⟨t, e⟩ := r
      exact ⟨y, t, e⟩
    · exact strs_vals q w h
/-- each item differs from what is asked -/
theorem any_differs (hu : X.A.units + 65 < cLine) {pins : List (Addr × Obj)} {σ : L2.St} {H : Hp} {s : Shared} (I : L2.Inv X pins σ H s) {x : V} {v : Value} (rx : L2.RelV x v) (h : ¬ flatV x = true) (hx : AnyV H x) : inX x = (fun _ => false) ∧ ∀ (z : Str) (t : Tok), SeqAt.EqAt X.A.in1 s (Value.str z t) v false := by
  have hu1 : X.A.in1.units < cLine := by show X.A.units + 1 < cLine; omega
  rcases hx with f | ⟨l, xs, rfl, e⟩ | ⟨l, xs, rfl, e⟩ | ⟨l, kvs, rfl, e⟩
  · exact absurd f h
  · cases rx
    obtain ⟨its, _, pl, _⟩ := I.list (lst_sq (K := X.K) e)
    exact ⟨rfl, fun z t => SeqAt.EqAt.str_list z t pl.isList hu1⟩
  · cases rx
    obtain ⟨its, _, pl, _⟩ := I.tuple (e.sq (K := X.K))
    exact ⟨rfl, fun z t => SeqAt.EqAt.str_tuple z t pl hu1⟩
  · cases rx
    obtain ⟨z, hsy, ws, kv, o, es, ep, ho, ex, hdat, _⟩ := I.hok l _ e
    obtain ⟨cls, dd, data, sl⟩ := o
    have e1 : cls = .type "dict" := ex.1
    subst e1
    have e2 : data = .dict es _ := hdat
    subst e2
    exact ⟨rfl, fun z t => eq_str_dict z t ho hu1⟩
theorem op_uInX (hu : X.A.units + 65 < cLine) : OpR X (compareOp .In) (uInX X.K false) := by
  intro pins s σ H x y v u Q I rx ry ⟨a, ys, e, ht, hx, q⟩
  by_cases f : flatV x = true
  · exact op_uIn pins s σ H x y v u Q I rx ry (.inl ⟨a, _, e, .inr ht.sq, f, flat_strsX ys, by rw [if_neg (by decide), inV_inX ys f]; exact q⟩)
  · subst e
    cases ry
    obtain ⟨d1, d2⟩ := any_differs hu I rx f hx
    obtain ⟨its, rv, pl, _⟩ := I.tuple (ht.sq (K := X.K))
    refine SeqAt.in_tupleAt (fun _ => false) pl (fun w hw => ?_) ⟨.bl (its.toArray.any fun _ => false), H, I, rfl, ?_⟩
    · obtain ⟨z, t, rfl⟩ := strs_vals rv w (by simpa using hw)
      exact d2 z t
    · rw [d1] at q
      have : (its.toArray.any fun _ => false) = false := by simp
      rw [this]
      exact q
theorem op_uNotInX (hu : X.A.units + 65 < cLine) : OpR X (compareOp .NotIn) (uInX X.K true) := by
  intro pins s σ H x y v u Q I rx ry ⟨a, ys, e, ht, hx, q⟩
  by_cases f : flatV x = true
  · exact op_uNotIn pins s σ H x y v u Q I rx ry (.inl ⟨a, _, e, .inr ht.sq, f, flat_strsX ys, by rw [if_pos rfl, inV_inX ys f]; exact q⟩)
  · subst e
    cases ry
    obtain ⟨d1, d2⟩ := any_differs hu I rx f hx
    obtain ⟨its, rv, pl, _⟩ := I.tuple (ht.sq (K := X.K))
    refine SeqAt.notIn_tupleAt (fun _ => false) pl (fun w hw => ?_) ⟨.bl (!its.toArray.any fun _ => false), H, I, rfl, ?_⟩
    · obtain ⟨z, t, rfl⟩ := strs_vals rv w (by simpa using hw)
      exact d2 z t
    · rw [d1] at q
      have : (its.toArray.any fun _ => false) = false := by simp
      rw [this]
      exact q
/-- a list of anything held against the empty list -/
def uEqE : R2 := fun x y H Q => ∃ a b xs, x = .ref a ∧ y = .ref b ∧ H a = some (.lst xs) ∧ H b = some (.lst []) ∧ Q (.bl xs.isEmpty) H
theorem op_uEqE (hu : X.A.units + 65 < cLine) : OpR X (compareOp .Eq) uEqE := by
  intro pins s σ H x y v u Q I rx ry ⟨a, b, xs, e1, e2, ha, hb, q⟩
  subst e1 e2
  cases rx
  cases ry
  obtain ⟨its, rv, pl, _⟩ := I.list (lst_sq (K := X.K) ha)
  obtain ⟨its2, rv2, pl2, _⟩ := I.list (lst_sq (K := X.K) hb)
  cases rv2
  cases rv with
  | nil => exact SeqAt.eq_listAt (e := fun _ => true) pl.isList pl2.isList rfl (by omega) (fun j h1 h2 => absurd h1 (by simp)) ⟨.bl true, H, I, rfl, q⟩
  | cons r rs => exact SeqAt.eq_list_lengthsAt pl.isList pl2.isList (by simp) (by omega) ⟨.bl false, H, I, rfl, q⟩
end
theorem g_inX {K : PySem.W.Frag} {H : Hp} {x : V} {a : Addr} {ys : List Str} {Q : VK} (h : Tup H a (ys.map V.str)) (hx : AnyV H x) (q : Q (.bl (inX x ys)) H) : uInX K false x (.ref a) H Q := ⟨a, ys, rfl, h, hx, q⟩
theorem g_ninX {K : PySem.W.Frag} {H : Hp} {x : V} {a : Addr} {ys : List Str} {Q : VK} (h : Tup H a (ys.map V.str)) (hx : AnyV H x) (q : Q (.bl (!inX x ys)) H) : uInX K true x (.ref a) H Q := ⟨a, ys, rfl, h, hx, q⟩
theorem g_eqE {H : Hp} {a b : Addr} {xs : List V} {Q : VK} (h : H a = some (.lst xs)) (e : H b = some (.lst [])) (q : Q (.bl xs.isEmpty) H) : uEqE (.ref a) (.ref b) H Q := ⟨a, b, xs, rfl, rfl, h, e, q⟩
end Wg

/-! Wagon, part 49: True and False counted as numbers: + and - a number, str. -/
namespace Wg
open PySem PySem.Spec PyProof.Rows L2
def numOfV : V → Option Int
  | .int i => some i
  | .bl b => some (if b then 1 else 0)
  | _ => none
/-- number or bool beside a number -/
def rN0 (f : Int → Int → Int) : R2 := fun x y H Q => ∃ i j, numOfV x = some i ∧ y = .int j ∧ Q (.int (f i j)) H
section
variable {X : Cx}
theorem op_addN : OpR X (binaryOp .Add) (rN0 fun i j => i + j) := by
  intro pins s σ H x y v u Q I rx ry ⟨i, j, hx, hy, q⟩
  subst hy
  cases x with
  | int k =>
    obtain rfl : k = i := Option.some.inj hx
    exact op_add pins s σ H _ _ v u Q I rx ry ⟨k, j, rfl, rfl, q⟩
  | bl b =>
    have hx' : (if b then 1 else 0 : Int) = i := Option.some.inj hx
    obtain ⟨t, rfl⟩ := ry
    cases rx
    exact IntBool.add_bool_int ⟨.int (i + j), H, Inv.tok I _, ⟨_, by rw [hx']⟩, q⟩
  | _ => cases hx
theorem op_subN : OpR X (binaryOp .Sub) (rN0 fun i j => i - j) := by
  intro pins s σ H x y v u Q I rx ry ⟨i, j, hx, hy, q⟩
  subst hy
  cases x with
  | int k =>
    obtain rfl : k = i := Option.some.inj hx
    exact op_sub pins s σ H _ _ v u Q I rx ry ⟨k, j, rfl, rfl, q⟩
  | bl b =>
    have hx' : (if b then 1 else 0 : Int) = i := Option.some.inj hx
    obtain ⟨t, rfl⟩ := ry
    cases rx
    exact IntBool.sub_bool_int ⟨.int (i - j), H, Inv.tok I _, ⟨_, by rw [hx']⟩, q⟩
  | _ => cases hx
end
def numS : V → Str
  | .int i => Str.ofString (toString i)
  | .bl b => if b then Str.ofString "True" else Str.ofString "False"
  | _ => ""
def uStrN : List V → Hp → VK → Prop := fun xs H Q => ∃ x i, xs = [x] ∧ numOfV x = some i ∧ i.natAbs.log2 < 1920 ∧ Q (.str (numS x)) H
theorem call_uStrN {X : Cx} : CallR X (.type "str") uStrN := by
  intro pins s σ H xs us Q I r ⟨x, i, e, hx, hz, q⟩
  subst e
  cases x with
  | int k =>
    obtain rfl : k = i := Option.some.inj hx
    exact call_uStr pins s σ H _ us Q I r ⟨k, rfl, hz, q⟩
  | bl b =>
    obtain ⟨u, rfl, ru⟩ := vals1 r
    cases ru
    exact P.str_of_bool ⟨.str (numS (.bl b)), H, Inv.tok I _, ⟨_, rfl⟩, q⟩
  | _ => cases hx
end Wg

/-! Wagon, part 50: anything held against a text, asked in a list of texts; a tuple of texts asked in a list of tuples of anything; >= of alike data. -/
namespace Wg
open PySem PySem.Spec PyProof.Rows L2
theorem rc_dict_str {A : Around} {s : Shared} {a : Addr} {dd : Option Addr} {es : Array DictEntry} {n : Nat} {sl : Array (Option Value)} (b : Str) (u : Tok) (ho : s.heap.get? a = some ⟨.type "dict", dd, .dict es n, sl⟩) (hu : A.units < cLine) : SeqAt.RcAt A s (Value.ref a) (Value.str b u) false := fun prog w E Q h =>
  SeqAt.rc_eq_decline_or ⟨_, ho, rfl⟩ (typeIs_str s b u) (by decide) F.sub_str_dict F.slot_dict_eq F.slot_str_eq_refl
    (fun x hq => call_meets F.slot_dict_eq ⟨_, ho, rfl⟩ F.entry_dict_eq (F.args_dict_eq_2 _ _) (dict_eq_declines_str a _ b u) ⟨ho, hq⟩)
    (fun x hq => call_meets F.slot_str_eq_refl (typeIs_str s b u) F.entry_str_eq (F.args_str_eq_2 _ _) (str_eq_declines_dict b u a _ dd es n sl) ⟨ho, hq⟩)
    (fun x hq => wpAny_of_eq rfl hq) (.inr hu) h
theorem eq_dict_str {A : Around} {s : Shared} {a : Addr} {dd : Option Addr} {es : Array DictEntry} {n : Nat} {sl : Array (Option Value)} (b : Str) (u : Tok) (ho : s.heap.get? a = some ⟨.type "dict", dd, .dict es n, sl⟩) (hu : A.units < cLine) : SeqAt.EqAt A s (Value.ref a) (Value.str b u) false := fun prog w E Q h => by
  unfold eqBool
  exact wpAny_holding (wpAny_ite_split (fun hab => absurd (eq_of_beq hab) fun a => nomatch a) fun x => wpAny_bind (rc_dict_str b u ho hu prog w E _ (wpAny_truthy_bool h)))
def isTxt (x : V) (z : Str) : Bool := match x with
  | .str w => decide (w = z)
  | _ => false
section
variable {X : Cx}
/-- any data held against a text, both ways of asking -/
theorem any_txt {A : Around} (hu : A.units < cLine) {pins : List (Addr × Obj)} {σ : L2.St} {H : Hp} {s : Shared} (I : L2.Inv X pins σ H s) {x : V} {v : Value} (rx : L2.RelV x v) (hx : AnyV H x) (z : Str) (t : Tok) :
    SeqAt.RcAt A s v (.str z t) (isTxt x z) ∧ SeqAt.EqAt A s v (.str z t) (isTxt x z) := by
  rcases hx with f | ⟨l, xs, rfl, e⟩ | ⟨l, xs, rfl, e⟩ | ⟨l, kvs, rfl, e⟩
  · cases x with
    | non => cases rx; exact ⟨SeqAt.RcAt.none_str z t, SeqAt.EqAt.none_str z t⟩
    | bl b => cases rx; exact ⟨SeqAt.RcAt.bool_str b z t, SeqAt.EqAt.bool_str b z t⟩
    | int i =>
      obtain ⟨u, rfl⟩ := rx
      exact ⟨SeqAt.RcAt.int_str i u z t, SeqAt.EqAt.int_str i u z t⟩
    | str w =>
      obtain ⟨u, rfl⟩ := rx
      have e : isTxt (.str w) z = (w == z) := by
        show decide (w = z) = _
        rw [Bool.eq_iff_iff]; simp
      rw [e]
      exact ⟨SeqAt.RcAt.str_str w u z t, SeqAt.EqAt.str_str w u z t⟩
    | _ => cases f
  · cases rx
    obtain ⟨its, _, pl, _⟩ := I.list (lst_sq (K := X.K) e)
    exact ⟨SeqAt.RcAt.list_str z t pl.isList hu, SeqAt.EqAt.list_str z t pl.isList hu⟩
  · cases rx
    obtain ⟨its, _, pl, _⟩ := I.tuple (e.sq (K := X.K))
    exact ⟨SeqAt.RcAt.tuple_str z t pl hu, SeqAt.EqAt.tuple_str z t pl hu⟩
  · cases rx
    obtain ⟨y, hsy, ws, kv, o, es, ep, ho, ex, hdat, _⟩ := I.hok l _ e
    obtain ⟨cls, dd, data, sl⟩ := o
    have e1 : cls = .type "dict" := ex.1
    subst e1
    have e2 : data = .dict es _ := hdat
    subst e2
    exact ⟨rc_dict_str z t ho hu, eq_dict_str z t ho hu⟩
def uEqX : R2 := fun x y H Q => ∃ z, y = .str z ∧ AnyV H x ∧ Q (.bl (isTxt x z)) H
theorem op_uEqX (hu : X.A.units + 65 < cLine) : OpR X (compareOp .Eq) uEqX := by
  intro pins s σ H x y v u Q I rx ry ⟨z, e, hx, q⟩
  subst e
  obtain ⟨t, rfl⟩ := ry
  exact (any_txt (by omega) I rx hx z t).1 _ _ _ _ ⟨.bl _, H, I, rfl, q⟩
/-- anything asked in a list of texts -/
def uInXL (K : PySem.W.Frag) (neg : Bool) : R2 := fun x y H Q => ∃ a ys, y = .ref a ∧ H a = some (.lst (ys.map V.str)) ∧ AnyV H x ∧ Q (.bl (if neg then !inX x ys else inX x ys)) H
theorem op_uInXL (hu : X.A.units + 65 < cLine) : OpR X (compareOp .In) (uInXL X.K false) := by
  intro pins s σ H x y v u Q I rx ry ⟨a, ys, e, ht, hx, q⟩
  by_cases f : flatV x = true
  · exact op_uIn pins s σ H x y v u Q I rx ry (.inl ⟨a, _, e, .inl (lst_sq ht), f, flat_strsX ys, by rw [if_neg (by decide), inV_inX ys f]; exact q⟩)
  · subst e
    cases ry
    obtain ⟨d1, d2⟩ := any_differs hu I rx f hx
    obtain ⟨its, rv, pl, _⟩ := I.list (lst_sq (K := X.K) ht)
    refine SeqAt.in_listAt (fun _ => false) pl.isList (fun w hw => ?_) ⟨.bl (its.toArray.any fun _ => false), H, I, rfl, ?_⟩
    · obtain ⟨z, t, rfl⟩ := strs_vals rv w (by simpa using hw)
      exact d2 z t
    · rw [d1] at q
      have : (its.toArray.any fun _ => false) = false := by simp
      rw [this]
      exact q
theorem op_uNotInXL (hu : X.A.units + 65 < cLine) : OpR X (compareOp .NotIn) (uInXL X.K true) := by
  intro pins s σ H x y v u Q I rx ry ⟨a, ys, e, ht, hx, q⟩
  by_cases f : flatV x = true
  · exact op_uNotIn pins s σ H x y v u Q I rx ry (.inl ⟨a, _, e, .inl (lst_sq ht), f, flat_strsX ys, by rw [if_pos rfl, inV_inX ys f]; exact q⟩)
  · subst e
    cases ry
    obtain ⟨d1, d2⟩ := any_differs hu I rx f hx
    obtain ⟨its, rv, pl, _⟩ := I.list (lst_sq (K := X.K) ht)
    refine SeqAt.notIn_listAt (fun _ => false) pl.isList (fun w hw => ?_) ⟨.bl (!its.toArray.any fun _ => false), H, I, rfl, ?_⟩
    · obtain ⟨z, t, rfl⟩ := strs_vals rv w (by simpa using hw)
      exact d2 z t
    · rw [d1] at q
      have : (its.toArray.any fun _ => false) = false := by simp
      rw [this]
      exact q
/-- a tuple of texts asked in a list of tuples of anything -/
def HdAt (H : Hp) (v : V) (xs : List V) : Prop := ∃ p, v = .ref p ∧ Tup H p xs ∧ ∀ x ∈ xs, AnyV H x
def isTxts : List V → List Str → Bool
  | [], [] => true
  | x :: xs, z :: zs => isTxt x z && isTxts xs zs
  | _, _ => false
def uInH : R2 := fun x y H Q => ∃ p a ss hv hs, x = .ref p ∧ Tup H p (ss.map V.str) ∧ y = .ref a ∧ H a = some (.lst hv) ∧ PySem.W.EachIs (HdAt H) hv hs ∧ Q (.bl (hs.any fun xs => isTxts xs ss)) H
theorem txts_range : ∀ (xs : List V) (ss : List Str), ((List.range (min xs.length ss.length)).all (fun j => isTxt (xs.getD j .non) (ss.getD j "")) && xs.length == ss.length) = isTxts xs ss
  | [], [] => rfl
  | [], s :: ss => by simp [isTxts]
  | x :: xs, [] => by simp [isTxts]
  | x :: xs, s :: ss => by
    rw [isTxts, ← txts_range xs ss]
    have e : min (x :: xs).length (s :: ss).length = min xs.length ss.length + 1 := by simp only [List.length_cons]; omega
    rw [e, List.range_succ_eq_map, List.all_cons, List.all_map]
    have e2 : ((x :: xs).length == (s :: ss).length) = (xs.length == ss.length) := by simp only [List.length_cons]; rw [Bool.eq_iff_iff]; simp
    rw [e2, Bool.and_assoc]
    rfl
theorem txts_self : ∀ ss : List Str, isTxts (ss.map V.str) ss = true
  | [] => rfl
  | s :: ss => by
    show (decide (s = s) && isTxts (ss.map V.str) ss) = true
    rw [txts_self ss]; simp
theorem heads_of {H : Hp} : ∀ {hv : List V} {its : List Value} {hs : List (List V)}, Vals hv its → PySem.W.EachIs (HdAt H) hv hs → ∀ y ∈ its, ∃ c xs, y = Value.ref c ∧ Tup H c xs ∧ ∀ x ∈ xs, AnyV H x
  | _, _, _, .nil, .nil, y, h => (List.not_mem_nil h).elim
  | _, _, _, .cons r q, .cons ⟨c, e, t, w⟩ es, y, h => by
    rcases List.mem_cons.mp h with h | h
    · subst e
      cases r
      exact ⟨c, _, h, t, w⟩
    · exact heads_of q es y h
open Classical in
theorem heads_any {H : Hp} {ss : List Str} : ∀ {hv : List V} {its : List Value} {hs : List (List V)}, Vals hv its → PySem.W.EachIs (HdAt H) hv hs → (its.any fun y => decide (∃ c xs, y = Value.ref c ∧ Tup H c xs ∧ isTxts xs ss = true)) = hs.any fun xs => isTxts xs ss
  | _, _, _, .nil, .nil => rfl
  | _, _, _, .cons r q, .cons (b := xs) ⟨c, e, t, w⟩ es => by
    subst e
    cases r
    rw [List.any_cons, List.any_cons, heads_any q es]
    congr 1
    cases hx : isTxts xs ss with
    | true => exact decide_eq_true ⟨c, xs, rfl, t, hx⟩
    | false =>
      refine decide_eq_false ?_
      rintro ⟨c', xs', e, t', h⟩
      cases e
      rw [t.inj t'] at hx
      rw [hx] at h
      cases h
open Classical in
theorem op_inH (hu : X.A.units + 65 < cLine) : OpR X (compareOp .In) uInH := by
  intro pins s σ H x y v u Q I rx ry ⟨p, a, ss, hv, hs, e1, tp, e2, ha, eh, q⟩
  subst e1 e2
  cases rx
  cases ry
  have hu1 : X.A.in1.units < cLine := by show X.A.units + 1 < cLine; omega
  have hu2 : X.A.in1.in1.units < cLine := by show X.A.units + 1 + 1 < cLine; omega
  obtain ⟨its, rv, pl, _⟩ := I.list (lst_sq (K := X.K) ha)
  obtain ⟨is2, rv2, pl2, _⟩ := I.tuple (tp.sq (K := X.K))
  refine SeqAt.in_listAt (fun y => decide (∃ c xs, y = Value.ref c ∧ Tup H c xs ∧ isTxts xs ss = true)) pl.isList (fun w hw => ?_) ⟨.bl _, H, I, rfl, ?_⟩
  · obtain ⟨c, xs, rfl, tc, an⟩ := heads_of rv eh w (by simpa using hw)
    have ev : decide (∃ c' xs, Value.ref c = Value.ref c' ∧ Tup H c' xs ∧ isTxts xs ss = true) = isTxts xs ss := by
      cases hx : isTxts xs ss with
      | true => exact decide_eq_true ⟨c, xs, rfl, tc, hx⟩
      | false =>
        refine decide_eq_false ?_
        rintro ⟨c', xs', e, t', h⟩
        cases e
        rw [tc.inj t'] at hx
        rw [hx] at h
        cases h
    show SeqAt.EqAt X.A.in1 s (Value.ref c) (Value.ref p) (decide _)
    rw [ev]
    by_cases hne : c = p
    · subst hne
      rw [tc.inj tp, txts_self]
      exact SeqAt.EqAt.same _
    · obtain ⟨is1, rv1, pl1, _⟩ := I.tuple (tc.sq (K := X.K))
      have l1 := rv1.length
      have l2 := rv2.length
      rw [List.length_map] at l2
      have key := SeqAt.RcAt.tuples (A := X.A.in1) (e := fun j => isTxt (xs.getD j .non) (ss.getD j "")) pl1 pl2 hu1 (fun j h1 h2 => ?_)
      · rw [List.size_toArray, List.size_toArray, ← l1, ← l2, txts_range] at key
        exact SeqAt.EqAt.of_refs hne key
      · rw [List.size_toArray] at h1 h2
        have hx : xs[j]? = some (xs.getD j .non) := by rw [List.getD_eq_getElem?_getD, List.getElem?_eq_getElem (by omega)]; rfl
        have hs' : (ss.map V.str)[j]? = some (.str (ss.getD j "")) := by rw [List.getElem?_map, List.getD_eq_getElem?_getD, List.getElem?_eq_getElem (by omega)]; rfl
        obtain ⟨u1, g1, r1⟩ := rv1.get hx
        obtain ⟨u2, g2, r2⟩ := rv2.get hs'
        obtain ⟨t, rfl⟩ := r2
        have e1 : is1.toArray[j] = u1 := by
          rw [List.getElem_toArray]
          exact (List.getElem?_eq_some_iff.mp g1).2
        have e2 : is2.toArray[j] = Value.str (ss.getD j "") t := by
          rw [List.getElem_toArray]
          exact (List.getElem?_eq_some_iff.mp g2).2
        rw [e1, e2]
        exact (any_txt hu2 I r1 (an _ (List.mem_of_getElem? hx)) _ t).2
  · have e : (its.toArray.any fun y => decide (∃ c xs, y = Value.ref c ∧ Tup H c xs ∧ isTxts xs ss = true)) = hs.any fun xs => isTxts xs ss := by
      rw [List.any_toArray]
      exact heads_any rv eh
    rw [e]
    exact q
def uGeD (K : PySem.W.Frag) : R2 := fun x y H Q => ∃ d e, Dp K H x d ∧ Dp K H y e ∧ PySem.W.alike d e = true ∧ d ≠ .none ∧ d.depth ≤ 50 ∧ Q (.bl (!PySem.W.dataLt d e)) H
theorem op_uGeD (hu : X.A.units + 65 < cLine) : OpR X (compareOp .GtE) (uGeD X.K) := by
  intro pins s σ H x y v u Q I rx ry h
  obtain ⟨d, e, h1, h2, h3, h4, h5, q⟩ := h
  obtain ⟨as, r1⟩ := Dp.reads I _ _ _ h1 rx
  obtain ⟨bs, r2⟩ := Dp.reads I _ _ _ h2 ry
  have := Nat.min_le_left d.depth e.depth
  exact PySem.W.ge_data r1 r2 h3 h4 (by omega) ⟨.bl _, H, I, rfl, q⟩
end
theorem g_eqX {H : Hp} {x : V} {z : Str} {Q : VK} (hx : AnyV H x) (q : Q (.bl (isTxt x z)) H) : uEqX x (.str z) H Q := ⟨z, rfl, hx, q⟩
theorem g_ninXL {K : PySem.W.Frag} {H : Hp} {x : V} {a : Addr} {ys : List Str} {Q : VK} (h : H a = some (.lst (ys.map V.str))) (hx : AnyV H x) (q : Q (.bl (!inX x ys)) H) : uInXL K true x (.ref a) H Q := ⟨a, ys, rfl, h, hx, q⟩
theorem g_inH {H : Hp} {p a : Addr} {ss : List Str} {hv : List V} {hs : List (List V)} {Q : VK} (tp : Tup H p (ss.map V.str)) (ha : H a = some (.lst hv)) (eh : PySem.W.EachIs (HdAt H) hv hs) (q : Q (.bl (hs.any fun xs => isTxts xs ss)) H) : uInH (.ref p) (.ref a) H Q := ⟨p, a, ss, hv, hs, rfl, tp, rfl, ha, eh, q⟩
end Wg

/-! Wagon, part 51: a list of anything that isn't the empty list. -/
namespace Wg
open PySem PySem.Spec PyProof.Rows L2
/-- a list of anything that isn't the empty list -/
def uNeE : R2 := fun x y H Q => ∃ a b xs, x = .ref a ∧ y = .ref b ∧ H a = some (.lst xs) ∧ H b = some (.lst []) ∧ Q (.bl (!xs.isEmpty)) H
theorem op_uNeE {X : Cx} (hu : X.A.units + 65 < cLine) : OpR X (compareOp .NotEq) uNeE := by
  intro pins s σ H x y v u Q I rx ry ⟨a, b, xs, e1, e2, ha, hb, q⟩
  subst e1 e2
  cases rx
  cases ry
  obtain ⟨its, rv, pl, _⟩ := I.list (lst_sq (K := X.K) ha)
  obtain ⟨its2, rv2, pl2, _⟩ := I.list (lst_sq (K := X.K) hb)
  cases rv2
  cases rv with
  | nil => exact SeqAt.RcNeAt.lists (e := fun _ => true) pl.isList pl2.isList rfl (by omega) (fun j h1 h2 => absurd h1 (by simp)) _ _ _ _ ⟨.bl false, H, I, rfl, q⟩
  | cons r rs => exact SeqAt.RcNeAt.lists_lengths pl.isList pl2.isList (by simp) (by omega) _ _ _ _ ⟨.bl true, H, I, rfl, q⟩
theorem g_neE {H : Hp} {a b : Addr} {xs : List V} {Q : VK} (h : H a = some (.lst xs)) (e : H b = some (.lst [])) (q : Q (.bl (!xs.isEmpty)) H) : uNeE (.ref a) (.ref b) H Q := ⟨a, b, xs, rfl, rfl, h, e, q⟩
def uNinH : R2 := fun x y H Q => ∃ p a ss hv hs, x = .ref p ∧ Tup H p (ss.map V.str) ∧ y = .ref a ∧ H a = some (.lst hv) ∧ PySem.W.EachIs (HdAt H) hv hs ∧ Q (.bl (!hs.any fun xs => isTxts xs ss)) H
section
variable {X : Cx}
open Classical in
theorem op_notInH (hu : X.A.units + 65 < cLine) : OpR X (compareOp .NotIn) uNinH := by
  intro pins s σ H x y v u Q I rx ry ⟨p, a, ss, hv, hs, e1, tp, e2, ha, eh, q⟩
  subst e1 e2
  cases rx
  cases ry
  have hu1 : X.A.in1.units < cLine := by show X.A.units + 1 < cLine; omega
  have hu2 : X.A.in1.in1.units < cLine := by show X.A.units + 1 + 1 < cLine; omega
  obtain ⟨its, rv, pl, _⟩ := I.list (lst_sq (K := X.K) ha)
  obtain ⟨is2, rv2, pl2, _⟩ := I.tuple (tp.sq (K := X.K))
  refine SeqAt.notIn_listAt (fun y => decide (∃ c xs, y = Value.ref c ∧ Tup H c xs ∧ isTxts xs ss = true)) pl.isList (fun w hw => ?_) ⟨.bl _, H, I, rfl, ?_⟩
  · obtain ⟨c, xs, rfl, tc, an⟩ := heads_of rv eh w (by simpa using hw)
    have ev : decide (∃ c' xs, Value.ref c = Value.ref c' ∧ Tup H c' xs ∧ isTxts xs ss = true) = isTxts xs ss := by
      cases hx : isTxts xs ss with
      | true => exact decide_eq_true ⟨c, xs, rfl, tc, hx⟩
      | false =>
        refine decide_eq_false ?_
        rintro ⟨c', xs', e, t', h⟩
        cases e
        rw [tc.inj t'] at hx
        rw [hx] at h
        cases h
    show SeqAt.EqAt X.A.in1 s (Value.ref c) (Value.ref p) (decide _)
    rw [ev]
    by_cases hne : c = p
    · subst hne
      rw [tc.inj tp, txts_self]
      exact SeqAt.EqAt.same _
    · obtain ⟨is1, rv1, pl1, _⟩ := I.tuple (tc.sq (K := X.K))
      have l1 := rv1.length
      have l2 := rv2.length
      rw [List.length_map] at l2
      have key := SeqAt.RcAt.tuples (A := X.A.in1) (e := fun j => isTxt (xs.getD j .non) (ss.getD j "")) pl1 pl2 hu1 (fun j h1 h2 => ?_)
      · rw [List.size_toArray, List.size_toArray, ← l1, ← l2, txts_range] at key
        exact SeqAt.EqAt.of_refs hne key
      · rw [List.size_toArray] at h1 h2
        have hx : xs[j]? = some (xs.getD j .non) := by rw [List.getD_eq_getElem?_getD, List.getElem?_eq_getElem (by omega)]; rfl
        have hs' : (ss.map V.str)[j]? = some (.str (ss.getD j "")) := by rw [List.getElem?_map, List.getD_eq_getElem?_getD, List.getElem?_eq_getElem (by omega)]; rfl
        obtain ⟨u1, g1, r1⟩ := rv1.get hx
        obtain ⟨u2, g2, r2⟩ := rv2.get hs'
        obtain ⟨t, rfl⟩ := r2
        have e1 : is1.toArray[j] = u1 := by
          rw [List.getElem_toArray]
          exact (List.getElem?_eq_some_iff.mp g1).2
        have e2 : is2.toArray[j] = Value.str (ss.getD j "") t := by
          rw [List.getElem_toArray]
          exact (List.getElem?_eq_some_iff.mp g2).2
        rw [e1, e2]
        exact (any_txt hu2 I r1 (an _ (List.mem_of_getElem? hx)) _ t).2
  · have e : (its.toArray.any fun y => decide (∃ c xs, y = Value.ref c ∧ Tup H c xs ∧ isTxts xs ss = true)) = hs.any fun xs => isTxts xs ss := by
      rw [List.any_toArray]
      exact heads_any rv eh
    show Q (.bl (!its.toArray.any _)) H
    rw [e]
    exact q
end
theorem g_ninH {H : Hp} {p a : Addr} {ss : List Str} {hv : List V} {hs : List (List V)} {Q : VK} (tp : Tup H p (ss.map V.str)) (ha : H a = some (.lst hv)) (eh : PySem.W.EachIs (HdAt H) hv hs) (q : Q (.bl (!hs.any fun xs => isTxts xs ss)) H) : uNinH (.ref p) (.ref a) H Q := ⟨p, a, ss, hv, hs, rfl, tp, rfl, ha, eh, q⟩
end Wg

namespace Wg
open PySem PySem.Spec PyProof.Rows L2
def topS (i : Nat) : Stmt := PySem.Challenge.pw_wagoncalls_k27_trees_of_posts_by_any_han.main.body.getD i (.Pass ⟨0, 0, 0, 0⟩)
/-! wagoncalls_k27_trees_of_posts_by_any_han: the text and the derivations, written by gen.py -/
abbrev s__is_near_ : Stmt := topS 4
abbrev N__is_near : List Str := ["minutes", "reach"]
theorem sc__is_near : FnScope N__is_near ["minutes", "reach"] (defScope s__is_near_) := ⟨rfl, rfl, rfl, by decide +kernel, rfl, by decide +kernel, by decide +kernel⟩
def t__is_near (K : PySem.W.Frag) : TS :=
  tRet (tAndT K (tOp rNotN (tVar 0) (tC .non)) (tOp (rI0 fun i j => .bl (decide (i ≤ j))) (tVar 0) (tVar 1)))
theorem dv__is_near {P : Program} {w : World} {K : PySem.W.Frag} {mg : Str → Option Value} {b : Heap} {a : Addr} {d : FuncData} {sp : Sp} (F : Fn K mg "_is_near" s__is_near_ a d ["minutes", "reach"])
    (len : ∀ vs H Q E, sp vs H Q E → vs.length = 2)
    (rd : ∀ vs H Q E, sp vs H Q E → run (t__is_near K) (start N__is_near vs) H Q) : Keeps P w K mg b CX0 2 a d ["minutes", "reach"] sp := by
  refine keeps0 F.fn sc__is_near len fun cdv A o s H vs Q E hr h => ⟨t__is_near K, ?_, rd vs H Q E h⟩
  unfold t__is_near 
  exact (pss_one (ps_ret (pe_andT (pe_cmpR op_notN (pv 0) pe_non (nomark _)) (pe_one (pe_cmpR op_le (pv 0) (pv 1) (nomark _))))))

abbrev s_reached_ : Stmt := topS 1
abbrev N_reached : List Str := ["town", "chart", "place", "begin", "reach", "name", "row"]
theorem sc_reached : FnScope N_reached ["town", "chart", "place"] (defScope s_reached_) := ⟨rfl, rfl, rfl, by decide +kernel, rfl, by decide +kernel, by decide +kernel⟩
def t_reached (K : PySem.W.Frag) (s__is_near : Sp) : TS :=
  tSeq (tAsg (tIdx K (tOp (uIx K) (tVar 0) (tC (.int 0))) (tCons (tVar 2) (tNil))) (gName 3)) (tSeq (tAsg (tOp (uIx K) (tVar 0) (tC (.int 3))) (gName 4)) (tRet (tLc (RZ.iZipA K (tCons (tOp (uIx K) (tVar 0) (tC (.int 0))) (tCons (tVar 1) (tNil)))) (gTup K 2 (gCons (gName 5) (gCons (gName 6) (gNil)))) (tTru K (tGo s__is_near E0 (tCons (tOp (uIx K) (tVar 6) (tVar 3)) (tCons (tVar 4) (tNil))))) (tVar 5) [5, 6])))
theorem dv_reached {P : Program} {w : World} {K : PySem.W.Frag} {mg : Str → Option Value} {b : Heap} {a : Addr} {d : FuncData} {sp : Sp} (F : Fn K mg "reached" s_reached_ a d ["town", "chart", "place"])
    (n_zip : mg "zip" = none)
    {a__is_near : Addr} {d__is_near : FuncData} {s__is_near : Sp} (F__is_near : Fn K mg "_is_near" s__is_near_ a__is_near d__is_near ["minutes", "reach"]) (k__is_near : Keeps P w K mg b CX0 2 a__is_near d__is_near ["minutes", "reach"] s__is_near)
    (len : ∀ vs H Q E, sp vs H Q E → vs.length = 3)
    (rd : ∀ vs H Q E, sp vs H Q E → run (t_reached K s__is_near) (start N_reached vs) H Q) : Keeps P w K mg b CX0 3 a d ["town", "chart", "place"] sp := by
  refine keeps0 F.fn sc_reached len fun cdv A o s H vs Q E hr h => ⟨t_reached K s__is_near, ?_, rd vs H Q E h⟩
  unfold t_reached 
  exact (pss_cons (ps_set (i := 3) sc_reached.nd rfl (.inr rfl) (pe_idx (pe_ix ix_u (pv 0) pe_int (fun _ _ => rfl)) (pa_cons (pv 2) pa_nil)))
  (pss_cons (ps_set (i := 4) sc_reached.nd rfl (.inr rfl) (pe_ix ix_u (pv 0) pe_int (fun _ _ => rfl)))
  (pss_one (ps_ret (pe_lc (own := [("name", 5), ("row", 6)]) rfl sc_reached.nd (RZ.pi_zipA (by rfl) n_zip (pa_cons (pe_ix ix_u (pv 0) pe_int (fun _ _ => rfl)) (pa_cons (pv 1) pa_nil))) (blkOk_by (own := [("name", 5), ("row", 6)]) (N := N_reached) (sc := defScope s_reached_) (by decide +kernel)) (fun _ _ _ _ _ => (pg_tup rfl (pgs_cons (pg_name (i := 5) sc_reached.nd rfl (.inl rfl)) (pgs_cons (pg_name (i := 6) sc_reached.nd rfl (.inl rfl)) pgs_nil)))) (fun _ _ _ _ _ => (pts_one (pt_tru (pe_go k__is_near (hr.mono (by decide)) rfl F__is_near.g F__is_near.fn.kp F__is_near.b pass0 (pa_cons (pe_ix ix_u (pv 6) (pv 3) (fun _ _ => rfl)) (pa_cons (pv 4) pa_nil)))))) (fun _ _ _ _ _ => (pv 5)))))))

abbrev s_bare_ : Stmt := topS 3
abbrev N_bare : List Str := ["town", "chart", "posts", "near", "post", "name"]
theorem sc_bare : FnScope N_bare ["town", "chart", "posts"] (defScope s_bare_) := ⟨rfl, rfl, rfl, by decide +kernel, rfl, by decide +kernel, by decide +kernel⟩
def t_bare (K : PySem.W.Frag) (s_reached : Sp) : TS :=
  tSeq (tAsg (tLc2 (iU K (tVar 2)) (gName 4) (tYes) (iU K (tGo s_reached E0 (tCons (tVar 0) (tCons (tVar 1) (tCons (tVar 4) (tNil)))))) (gName 5) (tYes) (tVar 5) [4, 5] [5]) (gName 3)) (tRet (tLc (iU K (tOp (uIx K) (tVar 0) (tC (.int 0)))) (gName 5) (tTest (tOp (uIn K true) (tVar 5) (tVar 3))) (tVar 5) [5]))
theorem dv_bare {P : Program} {w : World} {K : PySem.W.Frag} {mg : Str → Option Value} {b : Heap} {a : Addr} {d : FuncData} {sp : Sp} (F : Fn K mg "bare" s_bare_ a d ["town", "chart", "posts"])
    {a_reached : Addr} {d_reached : FuncData} {s_reached : Sp} (F_reached : Fn K mg "reached" s_reached_ a_reached d_reached ["town", "chart", "place"]) (k_reached : Keeps P w K mg b CX0 3 a_reached d_reached ["town", "chart", "place"] s_reached)
    (len : ∀ vs H Q E, sp vs H Q E → vs.length = 3)
    (rd : ∀ vs H Q E, sp vs H Q E → run (t_bare K s_reached) (start N_bare vs) H Q) : Keeps P w K mg b CX0 4 a d ["town", "chart", "posts"] sp := by
  refine keeps0 F.fn sc_bare len fun cdv A o s H vs Q E hr h => ⟨t_bare K s_reached, ?_, rd vs H Q E h⟩
  unfold t_bare 
  exact (pss_cons (ps_set (i := 3) sc_bare.nd rfl (.inr rfl) (pe_lc2 (own := [("post", 4), ("name", 5)]) rfl sc_bare.nd (pi_u (pv 2)) (blkOk_by (own := [("post", 4), ("name", 5)]) (N := N_bare) (sc := defScope s_bare_) (by decide +kernel)) (vs1 := [5]) (by decide) (fun _ _ _ _ _ => (pg_name (i := 4) sc_bare.nd rfl (.inl rfl))) (fun _ _ _ _ _ => pts_nil) (fun _ _ _ _ _ => (pi_u (pe_go k_reached (hr.mono (by decide)) rfl F_reached.g F_reached.fn.kp F_reached.b pass0 (pa_cons (pv 0) (pa_cons (pv 1) (pa_cons (pv 4) pa_nil)))))) (fun _ _ _ _ _ => (pg_name (i := 5) sc_bare.nd rfl (.inl rfl))) (fun _ _ _ _ _ => pts_nil) (fun _ _ _ _ _ => (pv 5))))
  (pss_one (ps_ret (pe_lc (own := [("name", 5)]) rfl sc_bare.nd (pi_u (pe_ix ix_u (pv 0) pe_int (fun _ _ => rfl))) (blkOk_by (own := [("name", 5)]) (N := N_bare) (sc := defScope s_bare_) (by decide +kernel)) (fun _ _ _ _ _ => (pg_name (i := 5) sc_bare.nd rfl (.inl rfl))) (fun _ _ _ _ _ => (pts_one (pt_cmpR op_uNotIn (pv 5) (pv 3) rfl))) (fun _ _ _ _ _ => (pv 5))))))

abbrev s_lost_ : Stmt := topS 2
abbrev N_lost : List Str := ["town", "chart"]
theorem sc_lost : FnScope N_lost ["town", "chart"] (defScope s_lost_) := ⟨rfl, rfl, rfl, by decide +kernel, rfl, by decide +kernel, by decide +kernel⟩
def t_lost (K : PySem.W.Frag) (s_bare : Sp) : TS :=
  tRet (tGo s_bare E0 (tCons (tVar 0) (tCons (tVar 1) (tCons (tOp (uIx K) (tVar 0) (tC (.int 2))) (tNil)))))
theorem dv_lost {P : Program} {w : World} {K : PySem.W.Frag} {mg : Str → Option Value} {b : Heap} {a : Addr} {d : FuncData} {sp : Sp} (F : Fn K mg "lost" s_lost_ a d ["town", "chart"])
    {a_bare : Addr} {d_bare : FuncData} {s_bare : Sp} (F_bare : Fn K mg "bare" s_bare_ a_bare d_bare ["town", "chart", "posts"]) (k_bare : Keeps P w K mg b CX0 4 a_bare d_bare ["town", "chart", "posts"] s_bare)
    (len : ∀ vs H Q E, sp vs H Q E → vs.length = 2)
    (rd : ∀ vs H Q E, sp vs H Q E → run (t_lost K s_bare) (start N_lost vs) H Q) : Keeps P w K mg b CX0 5 a d ["town", "chart"] sp := by
  refine keeps0 F.fn sc_lost len fun cdv A o s H vs Q E hr h => ⟨t_lost K s_bare, ?_, rd vs H Q E h⟩
  unfold t_lost 
  exact (pss_one (ps_ret (pe_go k_bare (hr.mono (by decide)) rfl F_bare.g F_bare.fn.kp F_bare.b pass0 (pa_cons (pv 0) (pa_cons (pv 1) (pa_cons (pe_ix ix_u (pv 0) pe_int (fun _ _ => rfl)) pa_nil))))))

abbrev s_Near____init___ : Stmt := inClass (topS 5) 0
abbrev N_Near____init__ : List Str := ["self", "town", "chart", "lost_places", "place", "goal"]
theorem sc_Near____init__ : FnScope N_Near____init__ ["self", "town", "chart"] (defScope s_Near____init___) := ⟨rfl, rfl, rfl, by decide +kernel, rfl, by decide +kernel, by decide +kernel⟩
def t_Near____init__ (K : PySem.W.Frag) (s_lost : Sp) (s_reached : Sp) : TS :=
  tSeq (tAsg (tGo s_lost E0 (tCons (tVar 1) (tCons (tVar 2) (tNil)))) (gName 3)) (tSeq (sFld K (tVar 0) (tLc (iU K (tOp (uIx K) (tVar 1) (tC (.int 0)))) (gName 4) (tTest (tOp (uIn K true) (tVar 4) (tVar 3))) (tVar 4) [4]) "goals") (sFld K (tVar 0) (tDc (iU K (tOp (uIx K) (tVar 1) (tC (.int 0)))) (gName 4) (tYes) (tVar 4) (tDc (iU K (tGo s_reached E0 (tCons (tVar 1) (tCons (tVar 2) (tCons (tVar 4) (tNil)))))) (gName 5) (tYes) (tVar 5) (tC (.bl true)) [5]) [4]) "table"))
theorem dv_Near____init__ {P : Program} {w : World} {K : PySem.W.Frag} {mg : Str → Option Value} {b : Heap} {a : Addr} {d : FuncData} {sp : Sp} (F : FnM K "__init__" "Near.__init__" s_Near____init___ a d ["self", "town", "chart"])
    {a_lost : Addr} {d_lost : FuncData} {s_lost : Sp} (F_lost : Fn K mg "lost" s_lost_ a_lost d_lost ["town", "chart"]) (k_lost : Keeps P w K mg b CX0 5 a_lost d_lost ["town", "chart"] s_lost)
    {a_reached : Addr} {d_reached : FuncData} {s_reached : Sp} (F_reached : Fn K mg "reached" s_reached_ a_reached d_reached ["town", "chart", "place"]) (k_reached : Keeps P w K mg b CX0 3 a_reached d_reached ["town", "chart", "place"] s_reached)
    (len : ∀ vs H Q E, sp vs H Q E → vs.length = 3)
    (rd : ∀ vs H Q E, sp vs H Q E → run (t_Near____init__ K s_lost s_reached) (start N_Near____init__ vs) H Q) : Keeps P w K mg b CX0 6 a d ["self", "town", "chart"] sp := by
  refine keeps0 F.fn sc_Near____init__ len fun cdv A o s H vs Q E hr h => ⟨t_Near____init__ K s_lost s_reached, ?_, rd vs H Q E h⟩
  unfold t_Near____init__ 
  exact (pss_cons (ps_set (i := 3) sc_Near____init__.nd rfl (.inr rfl) (pe_go k_lost (hr.mono (by decide)) rfl F_lost.g F_lost.fn.kp F_lost.b pass0 (pa_cons (pv 1) (pa_cons (pv 2) pa_nil))))
  (pss_cons (ps_fld (pv 0) (pe_lc (own := [("place", 4)]) rfl sc_Near____init__.nd (pi_u (pe_ix ix_u (pv 1) pe_int (fun _ _ => rfl))) (blkOk_by (own := [("place", 4)]) (N := N_Near____init__) (sc := defScope s_Near____init___) (by decide +kernel)) (fun _ _ _ _ _ => (pg_name (i := 4) sc_Near____init__.nd rfl (.inl rfl))) (fun _ _ _ _ _ => (pts_one (pt_cmpR op_uNotIn (pv 4) (pv 3) rfl))) (fun _ _ _ _ _ => (pv 4))) (by rfl))
  (pss_one (ps_fld (pv 0) (pe_dc (own := [("place", 4)]) rfl sc_Near____init__.nd (pi_u (pe_ix ix_u (pv 1) pe_int (fun _ _ => rfl))) (blkOk_by (own := [("place", 4)]) (N := N_Near____init__) (sc := defScope s_Near____init___) (by decide +kernel)) (fun _ _ _ _ _ => (pg_name (i := 4) sc_Near____init__.nd rfl (.inl rfl))) (fun _ _ _ _ _ => pts_nil) (fun _ _ _ _ _ => (pv 4)) (fun _ _ _ _ _ => (pe_dc (own := [("goal", 5)]) rfl sc_Near____init__.nd (pi_u (pe_go k_reached (hr.mono (by decide)) rfl F_reached.g F_reached.fn.kp F_reached.b pass0 (pa_cons (pv 1) (pa_cons (pv 2) (pa_cons (pv 4) pa_nil))))) (blkOk_any (own := [("goal", 5)]) (N := N_Near____init__) (by decide +kernel)) (fun _ _ _ _ _ => (pg_name (i := 5) sc_Near____init__.nd rfl (.inl rfl))) (fun _ _ _ _ _ => pts_nil) (fun _ _ _ _ _ => (pv 5)) (fun _ _ _ _ _ => pe_bl)))) (by rfl)))))

abbrev s_Near__reaches_ : Stmt := inClass (topS 5) 1
abbrev N_Near__reaches : List Str := ["self", "post", "place"]
theorem sc_Near__reaches : FnScope N_Near__reaches ["self", "post", "place"] (defScope s_Near__reaches_) := ⟨rfl, rfl, rfl, by decide +kernel, rfl, by decide +kernel, by decide +kernel⟩
def t_Near__reaches (K : PySem.W.Frag) : TS :=
  tRet (tDIn (tVar 2) (tDGet (tFld K (tVar 0) "table") (tVar 1)))
theorem dv_Near__reaches {P : Program} {w : World} {K : PySem.W.Frag} {mg : Str → Option Value} {b : Heap} {a : Addr} {d : FuncData} {sp : Sp} (F : FnM K "reaches" "Near.reaches" s_Near__reaches_ a d ["self", "post", "place"])
    (len : ∀ vs H Q E, sp vs H Q E → vs.length = 3)
    (rd : ∀ vs H Q E, sp vs H Q E → run (t_Near__reaches K) (start N_Near__reaches vs) H Q) : Keeps P w K mg b CX0 2 a d ["self", "post", "place"] sp := by
  refine keeps0 F.fn sc_Near__reaches len fun cdv A o s H vs Q E hr h => ⟨t_Near__reaches K, ?_, rd vs H Q E h⟩
  unfold t_Near__reaches 
  exact (pss_one (ps_ret (pe_cmp (pc_din (hu_of hr.rm) (pv 2) (pe_dget (hu_of hr.rm) (pe_fld (pv 0) (by rfl)) (pv 1) (fun _ _ => rfl))))))

abbrev s_Near__lacking_ : Stmt := inClass (topS 5) 2
abbrev N_Near__lacking : List Str := ["self", "posts", "found", "post", "place"]
theorem sc_Near__lacking : FnScope N_Near__lacking ["self", "posts"] (defScope s_Near__lacking_) := ⟨rfl, rfl, rfl, by decide +kernel, rfl, by decide +kernel, by decide +kernel⟩
def t_Near__lacking_b1 (K : PySem.W.Frag) : TS :=
  tDrop (tBM K "dict" uUpd (tVar 2) (tCons (tDGet (tFld K (tVar 0) "table") (tVar 3)) (tNil)))
def t_Near__lacking_r1 (K : PySem.W.Frag) : TS :=
  tRet (tLc (iU K (tFld K (tVar 0) "goals")) (gName 4) (tTest (tDNotIn (tVar 4) (tVar 2))) (tVar 4) [4])
def t_Near__lacking (K : PySem.W.Frag) : TS :=
  tSeq (tAsg (tDNewU) (gName 2)) (tSeq (tFor (iU K (tVar 1)) (gName 3) (t_Near__lacking_b1 K)) (t_Near__lacking_r1 K))
theorem dv_Near__lacking {P : Program} {w : World} {K : PySem.W.Frag} {mg : Str → Option Value} {b : Heap} {a : Addr} {d : FuncData} {sp : Sp} (F : FnM K "lacking" "Near.lacking" s_Near__lacking_ a d ["self", "posts"])
    (len : ∀ vs H Q E, sp vs H Q E → vs.length = 2)
    (rd : ∀ vs H Q E, sp vs H Q E → run (t_Near__lacking K) (start N_Near__lacking vs) H Q) : Keeps P w K mg b CX0 2 a d ["self", "posts"] sp := by
  refine keeps0 F.fn sc_Near__lacking len fun cdv A o s H vs Q E hr h => ⟨t_Near__lacking K, ?_, rd vs H Q E h⟩
  unfold t_Near__lacking t_Near__lacking_r1 t_Near__lacking_b1
  exact (pss_cons (ps_set (i := 2) sc_Near__lacking.nd rfl (.inr rfl) pe_dnewU)
  (pss_cons (ps_for PassesOwn.never rfl (pi_u (pv 1)) (pg_name (i := 3) sc_Near__lacking.nd rfl (.inl rfl)) (pss_one (ps_expr (pe_bm PySem.F.plainAttrs_dict PySem.F.slot_dict_update PySem.F.type_dict_update mt_uUpd (pv 2) (pa_cons (pe_dget (hu_of hr.rm) (pe_fld (pv 0) (by rfl)) (pv 3) (fun _ _ => rfl)) pa_nil)))))
  (pss_one (ps_ret (pe_lc (own := [("place", 4)]) rfl sc_Near__lacking.nd (pi_u (pe_fld (pv 0) (by rfl))) (blkOk_by (own := [("place", 4)]) (N := N_Near__lacking) (sc := defScope s_Near__lacking_) (by decide +kernel)) (fun _ _ _ _ _ => (pg_name (i := 4) sc_Near__lacking.nd rfl (.inl rfl))) (fun _ _ _ _ _ => (pts_one (pt_cmp (pc_dnotin (hu_of hr.rm) (pv 4) (pv 2))))) (fun _ _ _ _ _ => (pv 4)))))))

abbrev s_StandChoices____init___ : Stmt := inClass (topS 7) 0
abbrev N_StandChoices____init__ : List Str := ["self", "town", "chart"]
theorem sc_StandChoices____init__ : FnScope N_StandChoices____init__ ["self", "town", "chart"] (defScope s_StandChoices____init___) := ⟨rfl, rfl, rfl, by decide +kernel, rfl, by decide +kernel, by decide +kernel⟩
def t_StandChoices____init__ (K : PySem.W.Frag) (s_Near____init__ : Sp) (c_Near : Addr) : TS :=
  tSeq (sFld K (tVar 0) (tNewC s_Near____init__ E0 c_Near (tCons (tVar 1) (tCons (tVar 2) (tNil)))) "near") (sFld K (tVar 0) (tOp (uIx K) (tVar 1) (tC (.int 2))) "stands")
theorem dv_StandChoices____init__ {P : Program} {w : World} {K : PySem.W.Frag} {mg : Str → Option Value} {b : Heap} {a : Addr} {d : FuncData} {sp : Sp} (F : FnM K "__init__" "StandChoices.__init__" s_StandChoices____init___ a d ["self", "town", "chart"])
    {c_Near : Addr} (cl_Near : Cls K c_Near)
    {a_Near____init__ : Addr} {d_Near____init__ : FuncData} {s_Near____init__ : Sp} (b_Near____init__ : Binds K d_Near____init__ ["self", "town", "chart"] []) (k_Near____init__ : Keeps P w K mg b CX0 6 a_Near____init__ d_Near____init__ ["self", "town", "chart"] s_Near____init__)
    (M_Near : L2.Mk K c_Near a_Near____init__) (g_Near : mg "Near" = some (.ref c_Near))
    (len : ∀ vs H Q E, sp vs H Q E → vs.length = 3)
    (rd : ∀ vs H Q E, sp vs H Q E → run (t_StandChoices____init__ K s_Near____init__ c_Near) (start N_StandChoices____init__ vs) H Q) : Keeps P w K mg b CX0 8 a d ["self", "town", "chart"] sp := by
  refine keeps0 F.fn sc_StandChoices____init__ len fun cdv A o s H vs Q E hr h => ⟨t_StandChoices____init__ K s_Near____init__ c_Near, ?_, rd vs H Q E h⟩
  unfold t_StandChoices____init__ 
  exact (pss_cons (ps_fld (pv 0) (pe_newC M_Near k_Near____init__ (hr.mono (by decide)) rfl g_Near b_Near____init__ pass0 (pa_cons (pv 1) (pa_cons (pv 2) pa_nil))) (by rfl))
  (pss_one (ps_fld (pv 0) (pe_ix ix_u (pv 1) pe_int (fun _ _ => rfl)) (by rfl))))

abbrev s_StandChoices__lacking_ : Stmt := inClass (topS 7) 1
abbrev N_StandChoices__lacking : List Str := ["self", "chosen", "option"]
theorem sc_StandChoices__lacking : FnScope N_StandChoices__lacking ["self", "chosen"] (defScope s_StandChoices__lacking_) := ⟨rfl, rfl, rfl, by decide +kernel, rfl, by decide +kernel, by decide +kernel⟩
def t_StandChoices__lacking (K : PySem.W.Frag) (s_Near__lacking : Sp) (c_Near : Addr) : TS :=
  tRet (tMth c_Near "lacking" s_Near__lacking E0 (tFld K (tVar 0) "near") (tCons (tLc (iU K (tVar 1)) (gName 2) (tYes) (tOp (uIx K) (tVar 2) (tC (.int 0))) [2]) (tNil)))
theorem dv_StandChoices__lacking {P : Program} {w : World} {K : PySem.W.Frag} {mg : Str → Option Value} {b : Heap} {a : Addr} {d : FuncData} {sp : Sp} (F : FnM K "lacking" "StandChoices.lacking" s_StandChoices__lacking_ a d ["self", "chosen"])
    {c_Near : Addr} (cl_Near : Cls K c_Near)
    {a_Near__lacking : Addr} {d_Near__lacking : FuncData} {s_Near__lacking : Sp} (b_Near__lacking : Binds K d_Near__lacking ["self", "posts"] []) (k_Near__lacking : Keeps P w K mg b CX0 2 a_Near__lacking d_Near__lacking ["self", "posts"] s_Near__lacking)
    (me_Near__lacking : Meth K c_Near "lacking" a_Near__lacking)
    (len : ∀ vs H Q E, sp vs H Q E → vs.length = 2)
    (rd : ∀ vs H Q E, sp vs H Q E → run (t_StandChoices__lacking K s_Near__lacking c_Near) (start N_StandChoices__lacking vs) H Q) : Keeps P w K mg b CX0 3 a d ["self", "chosen"] sp := by
  refine keeps0 F.fn sc_StandChoices__lacking len fun cdv A o s H vs Q E hr h => ⟨t_StandChoices__lacking K s_Near__lacking c_Near, ?_, rd vs H Q E h⟩
  unfold t_StandChoices__lacking 
  exact (pss_one (ps_ret (pe_mth (pe_fld (pv 0) (by rfl)) cl_Near me_Near__lacking k_Near__lacking (hr.mono (by decide)) b_Near__lacking pass0 (pa_cons (pe_lc (own := [("option", 2)]) rfl sc_StandChoices__lacking.nd (pi_u (pv 1)) (blkOk_by (own := [("option", 2)]) (N := N_StandChoices__lacking) (sc := defScope s_StandChoices__lacking_) (by decide +kernel)) (fun _ _ _ _ _ => (pg_name (i := 2) sc_StandChoices__lacking.nd rfl (.inl rfl))) (fun _ _ _ _ _ => pts_nil) (fun _ _ _ _ _ => (pe_ix ix_u (pv 2) pe_int (fun _ _ => rfl)))) pa_nil))))

abbrev s_StandChoices__options_ : Stmt := inClass (topS 7) 2
abbrev N_StandChoices__options : List Str := ["self", "chosen", "place", "stand"]
theorem sc_StandChoices__options : FnScope N_StandChoices__options ["self", "chosen", "place"] (defScope s_StandChoices__options_) := ⟨rfl, rfl, rfl, by decide +kernel, rfl, by decide +kernel, by decide +kernel⟩
def t_StandChoices__options (K : PySem.W.Frag) (s_Near__reaches : Sp) (c_Near : Addr) : TS :=
  tRet (tLc (iU K (tFld K (tVar 0) "stands")) (gName 3) (tTru K (tMth c_Near "reaches" s_Near__reaches E0 (tFld K (tVar 0) "near") (tCons (tVar 3) (tCons (tVar 2) (tNil))))) (tTupU (tCons (tVar 3) (tNil))) [3])
theorem dv_StandChoices__options {P : Program} {w : World} {K : PySem.W.Frag} {mg : Str → Option Value} {b : Heap} {a : Addr} {d : FuncData} {sp : Sp} (F : FnM K "options" "StandChoices.options" s_StandChoices__options_ a d ["self", "chosen", "place"])
    {c_Near : Addr} (cl_Near : Cls K c_Near)
    {a_Near__reaches : Addr} {d_Near__reaches : FuncData} {s_Near__reaches : Sp} (b_Near__reaches : Binds K d_Near__reaches ["self", "post", "place"] []) (k_Near__reaches : Keeps P w K mg b CX0 2 a_Near__reaches d_Near__reaches ["self", "post", "place"] s_Near__reaches)
    (me_Near__reaches : Meth K c_Near "reaches" a_Near__reaches)
    (len : ∀ vs H Q E, sp vs H Q E → vs.length = 3)
    (rd : ∀ vs H Q E, sp vs H Q E → run (t_StandChoices__options K s_Near__reaches c_Near) (start N_StandChoices__options vs) H Q) : Keeps P w K mg b CX0 3 a d ["self", "chosen", "place"] sp := by
  refine keeps0 F.fn sc_StandChoices__options len fun cdv A o s H vs Q E hr h => ⟨t_StandChoices__options K s_Near__reaches c_Near, ?_, rd vs H Q E h⟩
  unfold t_StandChoices__options 
  exact (pss_one (ps_ret (pe_lc (own := [("stand", 3)]) rfl sc_StandChoices__options.nd (pi_u (pe_fld (pv 0) (by rfl))) (blkOk_by (own := [("stand", 3)]) (N := N_StandChoices__options) (sc := defScope s_StandChoices__options_) (by decide +kernel)) (fun _ _ _ _ _ => (pg_name (i := 3) sc_StandChoices__options.nd rfl (.inl rfl))) (fun _ _ _ _ _ => (pts_one (pt_tru (pe_mth (pe_fld (pv 0) (by rfl)) cl_Near me_Near__reaches k_Near__reaches (hr.mono (by decide)) b_Near__reaches pass0 (pa_cons (pv 3) (pa_cons (pv 2) pa_nil)))))) (fun _ _ _ _ _ => (pe_tupU (pa_cons (pv 3) pa_nil))))))

abbrev s_StandChoices__ordered_ : Stmt := inClass (topS 7) 3
abbrev N_StandChoices__ordered : List Str := ["self", "chosen", "option"]
theorem sc_StandChoices__ordered : FnScope N_StandChoices__ordered ["self", "chosen"] (defScope s_StandChoices__ordered_) := ⟨rfl, rfl, rfl, by decide +kernel, rfl, by decide +kernel, by decide +kernel⟩
def t_StandChoices__ordered (K : PySem.W.Frag) : TS :=
  tRet (tCB (uSorted K) (tCons (tLc (iU K (tVar 1)) (gName 2) (tYes) (tIdx K (tFld K (tVar 0) "stands") (tCons (tOp (uIx K) (tVar 2) (tC (.int 0))) (tNil))) [2]) (tNil)))
theorem dv_StandChoices__ordered {P : Program} {w : World} {K : PySem.W.Frag} {mg : Str → Option Value} {b : Heap} {a : Addr} {d : FuncData} {sp : Sp} (F : FnM K "ordered" "StandChoices.ordered" s_StandChoices__ordered_ a d ["self", "chosen"])
    (n_sorted : mg "sorted" = none)
    (len : ∀ vs H Q E, sp vs H Q E → vs.length = 2)
    (rd : ∀ vs H Q E, sp vs H Q E → run (t_StandChoices__ordered K) (start N_StandChoices__ordered vs) H Q) : Keeps P w K mg b CX0 2 a d ["self", "chosen"] sp := by
  refine keeps0 F.fn sc_StandChoices__ordered len fun cdv A o s H vs Q E hr h => ⟨t_StandChoices__ordered K, ?_, rd vs H Q E h⟩
  unfold t_StandChoices__ordered 
  exact (pss_one (ps_ret (pe_callB (call_uSorted hr.rm.units) (by rfl) n_sorted (by decide +kernel) (pa_cons (pe_lc (own := [("option", 2)]) rfl sc_StandChoices__ordered.nd (pi_u (pv 1)) (blkOk_by (own := [("option", 2)]) (N := N_StandChoices__ordered) (sc := defScope s_StandChoices__ordered_) (by decide +kernel)) (fun _ _ _ _ _ => (pg_name (i := 2) sc_StandChoices__ordered.nd rfl (.inl rfl))) (fun _ _ _ _ _ => pts_nil) (fun _ _ _ _ _ => (pe_idx (pe_fld (pv 0) (by rfl)) (pa_cons (pe_ix ix_u (pv 2) pe_int (fun _ _ => rfl)) pa_nil)))) pa_nil))))

abbrev s__is_node_ : Stmt := topS 11
abbrev N__is_node : List Str := ["thing", "word", "many"]
theorem sc__is_node : FnScope N__is_node ["thing", "word", "many"] (defScope s__is_node_) := ⟨rfl, rfl, rfl, by decide +kernel, rfl, by decide +kernel, by decide +kernel⟩
def t__is_node (K : PySem.W.Frag) : TS :=
  tRet (tAndT K (tCB (rIsi K) (tCons (tVar 0) (tCons (tC (.ty "tuple")) (tNil)))) (tAndT K (tOp (uEq K false) (tCB (uLen K) (tCons (tVar 0) (tNil))) (tVar 2)) (tOp uEqX (tOp (uIx K) (tVar 0) (tC (.int 0))) (tVar 1))))
theorem dv__is_node {P : Program} {w : World} {K : PySem.W.Frag} {mg : Str → Option Value} {b : Heap} {a : Addr} {d : FuncData} {sp : Sp} (F : Fn K mg "_is_node" s__is_node_ a d ["thing", "word", "many"])
    (n_isinstance : mg "isinstance" = none)
    (n_tuple : mg "tuple" = none)
    (n_len : mg "len" = none)
    (len : ∀ vs H Q E, sp vs H Q E → vs.length = 3)
    (rd : ∀ vs H Q E, sp vs H Q E → run (t__is_node K) (start N__is_node vs) H Q) : Keeps P w K mg b CX0 2 a d ["thing", "word", "many"] sp := by
  refine keeps0 F.fn sc__is_node len fun cdv A o s H vs Q E hr h => ⟨t__is_node K, ?_, rd vs H Q E h⟩
  unfold t__is_node 
  exact (pss_one (ps_ret (pe_andT (pe_callB call_isi (by rfl) n_isinstance (by decide +kernel) (pa_cons (pv 0) (pa_cons (pe_bltn (v := .ty "tuple") (by rfl) n_tuple (by decide +kernel) rfl) pa_nil))) (pe_andT (pe_cmpR (op_uEq hr.rm.units) (pe_callB call_uLen (by rfl) n_len (by decide +kernel) (pa_cons (pv 0) pa_nil)) (pv 2) (nomark _)) (pe_one (pe_cmpR (op_uEqX (un65 hr)) (pe_ix ix_u (pv 0) pe_int (fun _ _ => rfl)) (pv 1) (nomark _)))))))

abbrev s__is_bare_ : Stmt := topS 12
abbrev N__is_bare : List Str := ["choices", "most", "chosen", "place"]
theorem sc__is_bare : FnScope N__is_bare ["choices", "most", "chosen", "place"] (defScope s__is_bare_) := ⟨rfl, rfl, rfl, by decide +kernel, rfl, by decide +kernel, by decide +kernel⟩
def t__is_bare_r1 (K : PySem.W.Frag) (s_StandChoices__lacking : Sp) (s_StandChoices__options : Sp) (c_StandChoices : Addr) : TS :=
  tRet (tOrT K (tOp (uEq K false) (tCB (uLen K) (tCons (tVar 2) (tNil))) (tVar 1)) (tNotT K (tMth c_StandChoices "options" s_StandChoices__options E0 (tVar 0) (tCons (tVar 2) (tCons (tVar 3) (tNil))))))
def t__is_bare (K : PySem.W.Frag) (s_StandChoices__lacking : Sp) (s_StandChoices__options : Sp) (c_StandChoices : Addr) : TS :=
  tSeq (tIfS (tTest (tOp (uInXL K true) (tVar 3) (tMth c_StandChoices "lacking" s_StandChoices__lacking E0 (tVar 0) (tCons (tVar 2) (tNil))))) (tRet (tC (.bl false))) (tNext)) (t__is_bare_r1 K s_StandChoices__lacking s_StandChoices__options c_StandChoices)
theorem dv__is_bare {P : Program} {w : World} {K : PySem.W.Frag} {mg : Str → Option Value} {b : Heap} {a : Addr} {d : FuncData} {sp : Sp} (F : Fn K mg "_is_bare" s__is_bare_ a d ["choices", "most", "chosen", "place"])
    {c_StandChoices : Addr} (cl_StandChoices : Cls K c_StandChoices)
    {a_StandChoices__lacking : Addr} {d_StandChoices__lacking : FuncData} {s_StandChoices__lacking : Sp} (b_StandChoices__lacking : Binds K d_StandChoices__lacking ["self", "chosen"] []) (k_StandChoices__lacking : Keeps P w K mg b CX0 3 a_StandChoices__lacking d_StandChoices__lacking ["self", "chosen"] s_StandChoices__lacking)
    (n_len : mg "len" = none)
    {a_StandChoices__options : Addr} {d_StandChoices__options : FuncData} {s_StandChoices__options : Sp} (b_StandChoices__options : Binds K d_StandChoices__options ["self", "chosen", "place"] []) (k_StandChoices__options : Keeps P w K mg b CX0 3 a_StandChoices__options d_StandChoices__options ["self", "chosen", "place"] s_StandChoices__options)
    (me_StandChoices__lacking : Meth K c_StandChoices "lacking" a_StandChoices__lacking)
    (me_StandChoices__options : Meth K c_StandChoices "options" a_StandChoices__options)
    (len : ∀ vs H Q E, sp vs H Q E → vs.length = 4)
    (rd : ∀ vs H Q E, sp vs H Q E → run (t__is_bare K s_StandChoices__lacking s_StandChoices__options c_StandChoices) (start N__is_bare vs) H Q) : Keeps P w K mg b CX0 4 a d ["choices", "most", "chosen", "place"] sp := by
  refine keeps0 F.fn sc__is_bare len fun cdv A o s H vs Q E hr h => ⟨t__is_bare K s_StandChoices__lacking s_StandChoices__options c_StandChoices, ?_, rd vs H Q E h⟩
  unfold t__is_bare t__is_bare_r1
  exact (pss_cons (ps_if (pt_cmpR (op_uNotInXL (un65 hr)) (pv 3) (pe_mth (pv 0) cl_StandChoices me_StandChoices__lacking k_StandChoices__lacking (hr.mono (by decide)) b_StandChoices__lacking pass0 (pa_cons (pv 2) pa_nil)) rfl) (pss_one (ps_ret pe_bl)) pss_nil)
  (pss_one (ps_ret (pe_orT (pe_cmpR (op_uEq hr.rm.units) (pe_callB call_uLen (by rfl) n_len (by decide +kernel) (pa_cons (pv 2) pa_nil)) (pv 1) (nomark _)) (pe_one (pe_notT (pe_mth (pv 0) cl_StandChoices me_StandChoices__options k_StandChoices__options (hr.mono (by decide)) b_StandChoices__options pass0 (pa_cons (pv 2) (pa_cons (pv 3) pa_nil)))))))))

abbrev s__are_branches_ : Stmt := topS 14
abbrev N__are_branches : List Str := ["thing", "options", "heads", "branch", "option"]
theorem sc__are_branches : FnScope N__are_branches ["thing", "options"] (defScope s__are_branches_) := ⟨rfl, rfl, rfl, by decide +kernel, rfl, by decide +kernel, by decide +kernel⟩
def t__are_branches_r1 (K : PySem.W.Frag) (P__are_branches : Addr) : TS :=
  tSeq (tAsg (tLc (iU K (tVar 0)) (gName 3) (tYes) (tSl (uSl K) (tVar 3) (tNoPart) (tPart (tUn (rU fun i => .int (-i)) (tC (.int 1))))) [3]) (gName 2)) (tRet (tGen P__are_branches (iU K (tVar 1)) (gName 4) (tYes) (tOp uInH (tVar 4) (tVar 2)) [4] false))
def t__are_branches_r2 (K : PySem.W.Frag) (P__are_branches : Addr) : TS :=
  tSeq (tIfS (tNot (tTru K (tGen P__are_branches (iU K (tVar 0)) (gName 3) (tYes) (tCB (rIsi K) (tCons (tVar 3) (tCons (tC (.ty "tuple")) (tNil)))) [3] false))) (tRet (tC (.bl false))) (tNext)) (t__are_branches_r1 K P__are_branches)
def t__are_branches (K : PySem.W.Frag) (P__are_branches : Addr) : TS :=
  tSeq (tIfS (tOr (tNot (tTru K (tCB (rIsi K) (tCons (tVar 0) (tCons (tC (.ty "tuple")) (tNil)))))) (tTest (tOp (uEq K true) (tCB (uLen K) (tCons (tVar 0) (tNil))) (tCB (uLen K) (tCons (tVar 1) (tNil)))))) (tRet (tC (.bl false))) (tNext)) (t__are_branches_r2 K P__are_branches)
theorem dv__are_branches {P : Program} {w : World} {K : PySem.W.Frag} {mg : Str → Option Value} {b : Heap} {a : Addr} {d : FuncData} {sp : Sp} (F : Fn K mg "_are_branches" s__are_branches_ a d ["thing", "options"])
    {tc__are_branches P__are_branches : Addr} (hcd : d.code = .ref tc__are_branches) (TB : GxR.TabB b mg tc__are_branches P__are_branches)
    (n_isinstance : mg "isinstance" = none)
    (n_tuple : mg "tuple" = none)
    (n_len : mg "len" = none)
    (n_all : mg "all" = none)
    (len : ∀ vs H Q E, sp vs H Q E → vs.length = 2)
    (rd : ∀ vs H Q E, sp vs H Q E → run (t__are_branches K P__are_branches) (start N__are_branches vs) H Q) : Keeps P w K mg b CX0 3 a d ["thing", "options"] sp := by
  refine keepsT F.fn hcd sc__are_branches len fun A o s H vs Q E hr h => ⟨t__are_branches K P__are_branches, ?_, rd vs H Q E h⟩
  unfold t__are_branches t__are_branches_r2 t__are_branches_r1
  exact (pss_cons (ps_if (PW.pt (pw_or (pt_not (pt_tru (pe_callB call_isi (by rfl) n_isinstance (by decide +kernel) (pa_cons (pv 0) (pa_cons (pe_bltn (v := .ty "tuple") (by rfl) n_tuple (by decide +kernel) rfl) pa_nil))))) (pw_or1 (pt_cmpR (op_uNe hr.rm.units) (pe_callB call_uLen (by rfl) n_len (by decide +kernel) (pa_cons (pv 0) pa_nil)) (pe_callB call_uLen (by rfl) n_len (by decide +kernel) (pa_cons (pv 1) pa_nil)) (nomark _))))) (pss_one (ps_ret pe_bl)) pss_nil)
  (pss_cons (ps_if (pt_not (pt_tru (pe_allG (own := [("branch", 3)]) hr TB (by rfl) rfl sc__are_branches.nd ⟨blkOk_by (own := [("branch", 3)]) (N := N__are_branches) (sc := defScope s__are_branches_) (by decide +kernel), by decide +kernel, by rfl, by rfl⟩ (by rfl) n_all (pi_u (pv 0)) (fun _ _ _ _ _ _ hr => (pg_name (i := 3) sc__are_branches.nd rfl (.inl rfl))) (fun _ _ _ _ _ _ _ => pts_nil) (fun _ _ _ _ _ _ hr => (pe_callB call_isi (by rfl) n_isinstance (by decide +kernel) (pa_cons (pv 3) (pa_cons (pe_bltn (v := .ty "tuple") (by rfl) n_tuple (by decide +kernel) rfl) pa_nil))))))) (pss_one (ps_ret pe_bl)) pss_nil)
  (pss_cons (ps_set (i := 2) sc__are_branches.nd rfl (.inr rfl) (pe_lc (own := [("branch", 3)]) rfl sc__are_branches.nd (pi_u (pv 0)) (blkOk_by (own := [("branch", 3)]) (N := N__are_branches) (sc := defScope s__are_branches_) (by decide +kernel)) (fun _ _ _ _ _ => (pg_name (i := 3) sc__are_branches.nd rfl (.inl rfl))) (fun _ _ _ _ _ => pts_nil) (fun _ _ _ _ _ => (pe_slice sl_u (pv 3) po_none (po_some (pe_un un_neg pe_int))))))
  (pss_one (ps_ret (pe_allG (own := [("option", 4)]) hr TB (by rfl) rfl sc__are_branches.nd ⟨blkOk_by (own := [("option", 4)]) (N := N__are_branches) (sc := defScope s__are_branches_) (by decide +kernel), by decide +kernel, by rfl, by rfl⟩ (by rfl) n_all (pi_u (pv 1)) (fun _ _ _ _ _ _ hr => (pg_name (i := 4) sc__are_branches.nd rfl (.inl rfl))) (fun _ _ _ _ _ _ _ => pts_nil) (fun _ _ _ _ _ _ hr => (pe_cmpR (op_inH (un65 hr)) (pv 4) (pv 2) rfl))))))))

abbrev s__shows_ : Stmt := topS 10
abbrev s__is_by_ : Stmt := topS 13
abbrev N__is_by : List Str := ["choices", "most", "least", "chosen", "place", "branches", "branch"]
theorem sc__is_by : FnScope N__is_by ["choices", "most", "least", "chosen", "place", "branches"] (defScope s__is_by_) := ⟨rfl, rfl, rfl, by decide +kernel, rfl, by decide +kernel, by decide +kernel⟩
def t__is_by_r1 (K : PySem.W.Frag) (s_StandChoices__lacking : Sp) (s__are_branches : Sp) (s_StandChoices__options : Sp) (s__shows : Sp) (c_StandChoices : Addr) (P__is_by : Addr) : TS :=
  tRet (tGen P__is_by (iU K (tVar 5)) (gName 6) (tYes) (tGo s__shows E0 (tCons (tVar 0) (tCons (tVar 1) (tCons (tVar 2) (tCons (tLstU (StX.tStar K (tVar 3) (tCons (tSl (uSl K) (tVar 6) (tNoPart) (tPart (tUn (rU fun i => .int (-i)) (tC (.int 1))))) (tNil)))) (tCons (tOp (uIx K) (tVar 6) (tUn (rU fun i => .int (-i)) (tC (.int 1)))) (tNil))))))) [6] false)
def t__is_by_r2 (K : PySem.W.Frag) (s_StandChoices__lacking : Sp) (s__are_branches : Sp) (s_StandChoices__options : Sp) (s__shows : Sp) (c_StandChoices : Addr) (P__is_by : Addr) : TS :=
  tSeq (tIfS (tNot (tTru K (tGo s__are_branches E0 (tCons (tVar 5) (tCons (tMth c_StandChoices "options" s_StandChoices__options E0 (tVar 0) (tCons (tVar 3) (tCons (tVar 4) (tNil)))) (tNil)))))) (tRet (tC (.bl false))) (tNext)) (t__is_by_r1 K s_StandChoices__lacking s__are_branches s_StandChoices__options s__shows c_StandChoices P__is_by)
def t__is_by (K : PySem.W.Frag) (s_StandChoices__lacking : Sp) (s__are_branches : Sp) (s_StandChoices__options : Sp) (s__shows : Sp) (c_StandChoices : Addr) (P__is_by : Addr) : TS :=
  tSeq (tIfS (tOr (tTest (tOp (uInXL K true) (tVar 4) (tMth c_StandChoices "lacking" s_StandChoices__lacking E0 (tVar 0) (tCons (tVar 3) (tNil))))) (tTest (tOp (rI0 fun i j => .bl (decide (j ≤ i))) (tCB (uLen K) (tCons (tVar 3) (tNil))) (tVar 1)))) (tRet (tC (.bl false))) (tNext)) (t__is_by_r2 K s_StandChoices__lacking s__are_branches s_StandChoices__options s__shows c_StandChoices P__is_by)
theorem dv__is_by {P : Program} {w : World} {K : PySem.W.Frag} {mg : Str → Option Value} {b : Heap} {a : Addr} {d : FuncData} {sp : Sp} (F : Fn K mg "_is_by" s__is_by_ a d ["choices", "most", "least", "chosen", "place", "branches"])
    {tc__is_by P__is_by : Addr} (hcd : d.code = .ref tc__is_by) (TB : GxR.TabB b mg tc__is_by P__is_by)
    {c_StandChoices : Addr} (cl_StandChoices : Cls K c_StandChoices)
    {a_StandChoices__lacking : Addr} {d_StandChoices__lacking : FuncData} {s_StandChoices__lacking : Sp} (b_StandChoices__lacking : Binds K d_StandChoices__lacking ["self", "chosen"] []) (k_StandChoices__lacking : Keeps P w K mg b CX0 3 a_StandChoices__lacking d_StandChoices__lacking ["self", "chosen"] s_StandChoices__lacking)
    (n_len : mg "len" = none)
    {a__are_branches : Addr} {d__are_branches : FuncData} {s__are_branches : Sp} (F__are_branches : Fn K mg "_are_branches" s__are_branches_ a__are_branches d__are_branches ["thing", "options"]) (k__are_branches : Keeps P w K mg b CX0 3 a__are_branches d__are_branches ["thing", "options"] s__are_branches)
    {a_StandChoices__options : Addr} {d_StandChoices__options : FuncData} {s_StandChoices__options : Sp} (b_StandChoices__options : Binds K d_StandChoices__options ["self", "chosen", "place"] []) (k_StandChoices__options : Keeps P w K mg b CX0 3 a_StandChoices__options d_StandChoices__options ["self", "chosen", "place"] s_StandChoices__options)
    (n_all : mg "all" = none)
    {lv : Nat} (hlv : 4 ≤ lv) {a__shows : Addr} {d__shows : FuncData} {s__shows : Sp} (F__shows : Fn K mg "_shows" s__shows_ a__shows d__shows ["choices", "most", "least", "chosen", "thing"]) (k__shows : Keeps P w K mg b CX0 lv a__shows d__shows ["choices", "most", "least", "chosen", "thing"] s__shows)
    (me_StandChoices__lacking : Meth K c_StandChoices "lacking" a_StandChoices__lacking)
    (me_StandChoices__options : Meth K c_StandChoices "options" a_StandChoices__options)
    (len : ∀ vs H Q E, sp vs H Q E → vs.length = 6)
    (rd : ∀ vs H Q E, sp vs H Q E → run (t__is_by K s_StandChoices__lacking s__are_branches s_StandChoices__options s__shows c_StandChoices P__is_by) (start N__is_by vs) H Q) : Keeps P w K mg b CX0 (lv + 2) a d ["choices", "most", "least", "chosen", "place", "branches"] sp := by
  refine keepsT F.fn hcd sc__is_by len fun A o s H vs Q E hr h => ⟨t__is_by K s_StandChoices__lacking s__are_branches s_StandChoices__options s__shows c_StandChoices P__is_by, ?_, rd vs H Q E h⟩
  unfold t__is_by t__is_by_r2 t__is_by_r1
  exact (pss_cons (ps_if (PW.pt (pw_or (pt_cmpR (op_uNotInXL (un65 hr)) (pv 4) (pe_mth (pv 0) cl_StandChoices me_StandChoices__lacking k_StandChoices__lacking (hr.mono (by omega)) b_StandChoices__lacking pass0 (pa_cons (pv 3) pa_nil)) rfl) (pw_or1 (pt_cmpR op_ge (pe_callB call_uLen (by rfl) n_len (by decide +kernel) (pa_cons (pv 3) pa_nil)) (pv 1) (nomark _))))) (pss_one (ps_ret pe_bl)) pss_nil)
  (pss_cons (ps_if (pt_not (pt_tru (pe_go k__are_branches (hr.mono (by omega)) rfl F__are_branches.g F__are_branches.fn.kp F__are_branches.b pass0 (pa_cons (pv 5) (pa_cons (pe_mth (pv 0) cl_StandChoices me_StandChoices__options k_StandChoices__options (hr.mono (by omega)) b_StandChoices__options pass0 (pa_cons (pv 3) (pa_cons (pv 4) pa_nil))) pa_nil))))) (pss_one (ps_ret pe_bl)) pss_nil)
  (pss_one (ps_ret (pe_allG (own := [("branch", 6)]) hr TB (by rfl) rfl sc__is_by.nd ⟨blkOk_by (own := [("branch", 6)]) (N := N__is_by) (sc := defScope s__is_by_) (by decide +kernel), by decide +kernel, by rfl, by rfl⟩ (by rfl) n_all (pi_u (pv 5)) (fun _ _ _ _ _ _ hr => (pg_name (i := 6) sc__is_by.nd rfl (.inl rfl))) (fun _ _ _ _ _ _ _ => pts_nil) (fun _ _ _ _ _ _ hr => (pe_go k__shows (hr.mono (by omega)) rfl F__shows.g F__shows.fn.kp F__shows.b pass0 (pa_cons (pv 0) (pa_cons (pv 1) (pa_cons (pv 2) (pa_cons (pe_lstU (StX.pa_star (pv 3) (pa_cons (pe_slice sl_u (pv 6) po_none (po_some (pe_un un_neg pe_int))) pa_nil))) (pa_cons (pe_ix ix_u (pv 6) (pe_un un_neg pe_int) (fun _ _ => rfl)) pa_nil))))))))))))

abbrev s__is_full_ : Stmt := topS 15
abbrev N__is_full : List Str := ["choices", "most", "least", "chosen"]
theorem sc__is_full : FnScope N__is_full ["choices", "most", "least", "chosen"] (defScope s__is_full_) := ⟨rfl, rfl, rfl, by decide +kernel, rfl, by decide +kernel, by decide +kernel⟩
def t__is_full_r1 (K : PySem.W.Frag) (s_StandChoices__lacking : Sp) (s_StandChoices__ordered : Sp) (c_StandChoices : Addr) : TS :=
  tRet (tOp (uGeD K) (tMth c_StandChoices "ordered" s_StandChoices__ordered E0 (tVar 0) (tCons (tVar 3) (tNil))) (tVar 2))
def t__is_full (K : PySem.W.Frag) (s_StandChoices__lacking : Sp) (s_StandChoices__ordered : Sp) (c_StandChoices : Addr) : TS :=
  tSeq (tIfS (tOr (tTest (tOp rIsN (tVar 2) (tC .non))) (tOr (tTest (tOp (uEq K true) (tCB (uLen K) (tCons (tVar 3) (tNil))) (tVar 1))) (tTru K (tMth c_StandChoices "lacking" s_StandChoices__lacking E0 (tVar 0) (tCons (tVar 3) (tNil)))))) (tRet (tC (.bl false))) (tNext)) (t__is_full_r1 K s_StandChoices__lacking s_StandChoices__ordered c_StandChoices)
theorem dv__is_full {P : Program} {w : World} {K : PySem.W.Frag} {mg : Str → Option Value} {b : Heap} {a : Addr} {d : FuncData} {sp : Sp} (F : Fn K mg "_is_full" s__is_full_ a d ["choices", "most", "least", "chosen"])
    {c_StandChoices : Addr} (cl_StandChoices : Cls K c_StandChoices)
    (n_len : mg "len" = none)
    {a_StandChoices__lacking : Addr} {d_StandChoices__lacking : FuncData} {s_StandChoices__lacking : Sp} (b_StandChoices__lacking : Binds K d_StandChoices__lacking ["self", "chosen"] []) (k_StandChoices__lacking : Keeps P w K mg b CX0 3 a_StandChoices__lacking d_StandChoices__lacking ["self", "chosen"] s_StandChoices__lacking)
    {a_StandChoices__ordered : Addr} {d_StandChoices__ordered : FuncData} {s_StandChoices__ordered : Sp} (b_StandChoices__ordered : Binds K d_StandChoices__ordered ["self", "chosen"] []) (k_StandChoices__ordered : Keeps P w K mg b CX0 2 a_StandChoices__ordered d_StandChoices__ordered ["self", "chosen"] s_StandChoices__ordered)
    (me_StandChoices__lacking : Meth K c_StandChoices "lacking" a_StandChoices__lacking)
    (me_StandChoices__ordered : Meth K c_StandChoices "ordered" a_StandChoices__ordered)
    (len : ∀ vs H Q E, sp vs H Q E → vs.length = 4)
    (rd : ∀ vs H Q E, sp vs H Q E → run (t__is_full K s_StandChoices__lacking s_StandChoices__ordered c_StandChoices) (start N__is_full vs) H Q) : Keeps P w K mg b CX0 4 a d ["choices", "most", "least", "chosen"] sp := by
  refine keeps0 F.fn sc__is_full len fun cdv A o s H vs Q E hr h => ⟨t__is_full K s_StandChoices__lacking s_StandChoices__ordered c_StandChoices, ?_, rd vs H Q E h⟩
  unfold t__is_full t__is_full_r1
  exact (pss_cons (ps_if (PW.pt (pw_or (pt_cmpR op_isN (pv 2) pe_non (nomark _)) (pw_or (pt_cmpR (op_uNe hr.rm.units) (pe_callB call_uLen (by rfl) n_len (by decide +kernel) (pa_cons (pv 3) pa_nil)) (pv 1) (nomark _)) (pw_or1 (pt_tru (pe_mth (pv 0) cl_StandChoices me_StandChoices__lacking k_StandChoices__lacking (hr.mono (by decide)) b_StandChoices__lacking pass0 (pa_cons (pv 3) pa_nil))))))) (pss_one (ps_ret pe_bl)) pss_nil)
  (pss_one (ps_ret (pe_cmpR (op_uGeD (un65 hr)) (pe_mth (pv 0) cl_StandChoices me_StandChoices__ordered k_StandChoices__ordered (hr.mono (by decide)) b_StandChoices__ordered pass0 (pa_cons (pv 3) pa_nil)) (pv 2) (nomark _)))))

abbrev N__shows : List Str := ["choices", "most", "least", "chosen", "thing"]
theorem sc__shows : FnScope N__shows ["choices", "most", "least", "chosen", "thing"] (defScope s__shows_) := ⟨rfl, rfl, rfl, by decide +kernel, rfl, by decide +kernel, by decide +kernel⟩
def t__shows_r1 (K : PySem.W.Frag) (s__is_node : Sp) (s__is_bare : Sp) (s__is_by : Sp) (s__is_full : Sp) : TS :=
  tRet (tAndT K (tGo s__is_node E0 (tCons (tVar 4) (tCons (tC (.str "full")) (tCons (tC (.int 1)) (tNil))))) (tGo s__is_full E0 (tCons (tVar 0) (tCons (tVar 1) (tCons (tVar 2) (tCons (tVar 3) (tNil)))))))
def t__shows_r2 (K : PySem.W.Frag) (s__is_node : Sp) (s__is_bare : Sp) (s__is_by : Sp) (s__is_full : Sp) : TS :=
  tSeq (tIfS (tTru K (tGo s__is_node E0 (tCons (tVar 4) (tCons (tC (.str "by")) (tCons (tC (.int 3)) (tNil)))))) (tRet (tGo s__is_by E0 (tCons (tVar 0) (tCons (tVar 1) (tCons (tVar 2) (tCons (tVar 3) (tCons (tOp (uIx K) (tVar 4) (tC (.int 1))) (tCons (tOp (uIx K) (tVar 4) (tC (.int 2))) (tNil))))))))) (tNext)) (t__shows_r1 K s__is_node s__is_bare s__is_by s__is_full)
def t__shows (K : PySem.W.Frag) (s__is_node : Sp) (s__is_bare : Sp) (s__is_by : Sp) (s__is_full : Sp) : TS :=
  tSeq (tIfS (tTru K (tGo s__is_node E0 (tCons (tVar 4) (tCons (tC (.str "bare")) (tCons (tC (.int 2)) (tNil)))))) (tRet (tGo s__is_bare E0 (tCons (tVar 0) (tCons (tVar 1) (tCons (tVar 3) (tCons (tOp (uIx K) (tVar 4) (tC (.int 1))) (tNil))))))) (tNext)) (t__shows_r2 K s__is_node s__is_bare s__is_by s__is_full)
theorem dv__shows {P : Program} {w : World} {K : PySem.W.Frag} {mg : Str → Option Value} {b : Heap} {a : Addr} {d : FuncData} {sp : Sp} (F : Fn K mg "_shows" s__shows_ a d ["choices", "most", "least", "chosen", "thing"])
    {a__is_node : Addr} {d__is_node : FuncData} {s__is_node : Sp} (F__is_node : Fn K mg "_is_node" s__is_node_ a__is_node d__is_node ["thing", "word", "many"]) (k__is_node : Keeps P w K mg b CX0 2 a__is_node d__is_node ["thing", "word", "many"] s__is_node)
    {a__is_bare : Addr} {d__is_bare : FuncData} {s__is_bare : Sp} (F__is_bare : Fn K mg "_is_bare" s__is_bare_ a__is_bare d__is_bare ["choices", "most", "chosen", "place"]) (k__is_bare : Keeps P w K mg b CX0 4 a__is_bare d__is_bare ["choices", "most", "chosen", "place"] s__is_bare)
    {lv : Nat} (hlv : 4 ≤ lv) {a__is_by : Addr} {d__is_by : FuncData} {s__is_by : Sp} (F__is_by : Fn K mg "_is_by" s__is_by_ a__is_by d__is_by ["choices", "most", "least", "chosen", "place", "branches"]) (k__is_by : Keeps P w K mg b CX0 (lv + 2) a__is_by d__is_by ["choices", "most", "least", "chosen", "place", "branches"] s__is_by)
    {a__is_full : Addr} {d__is_full : FuncData} {s__is_full : Sp} (F__is_full : Fn K mg "_is_full" s__is_full_ a__is_full d__is_full ["choices", "most", "least", "chosen"]) (k__is_full : Keeps P w K mg b CX0 4 a__is_full d__is_full ["choices", "most", "least", "chosen"] s__is_full)
    (len : ∀ vs H Q E, sp vs H Q E → vs.length = 5)
    (rd : ∀ vs H Q E, sp vs H Q E → run (t__shows K s__is_node s__is_bare s__is_by s__is_full) (start N__shows vs) H Q) : Keeps P w K mg b CX0 (lv + 3) a d ["choices", "most", "least", "chosen", "thing"] sp := by
  refine keeps0 F.fn sc__shows len fun cdv A o s H vs Q E hr h => ⟨t__shows K s__is_node s__is_bare s__is_by s__is_full, ?_, rd vs H Q E h⟩
  unfold t__shows t__shows_r2 t__shows_r1
  exact (pss_cons (ps_if (pt_tru (pe_go k__is_node (hr.mono (by omega)) rfl F__is_node.g F__is_node.fn.kp F__is_node.b pass0 (pa_cons (pv 4) (pa_cons pe_str (pa_cons pe_int pa_nil))))) (pss_one (ps_ret (pe_go k__is_bare (hr.mono (by omega)) rfl F__is_bare.g F__is_bare.fn.kp F__is_bare.b pass0 (pa_cons (pv 0) (pa_cons (pv 1) (pa_cons (pv 3) (pa_cons (pe_ix ix_u (pv 4) pe_int (fun _ _ => rfl)) pa_nil))))))) pss_nil)
  (pss_cons (ps_if (pt_tru (pe_go k__is_node (hr.mono (by omega)) rfl F__is_node.g F__is_node.fn.kp F__is_node.b pass0 (pa_cons (pv 4) (pa_cons pe_str (pa_cons pe_int pa_nil))))) (pss_one (ps_ret (pe_go k__is_by (hr.mono (by omega)) rfl F__is_by.g F__is_by.fn.kp F__is_by.b pass0 (pa_cons (pv 0) (pa_cons (pv 1) (pa_cons (pv 2) (pa_cons (pv 3) (pa_cons (pe_ix ix_u (pv 4) pe_int (fun _ _ => rfl)) (pa_cons (pe_ix ix_u (pv 4) pe_int (fun _ _ => rfl)) pa_nil))))))))) pss_nil)
  (pss_one (ps_ret (pe_andT (pe_go k__is_node (hr.mono (by omega)) rfl F__is_node.g F__is_node.fn.kp F__is_node.b pass0 (pa_cons (pv 4) (pa_cons pe_str (pa_cons pe_int pa_nil)))) (pe_one (pe_go k__is_full (hr.mono (by omega)) rfl F__is_full.g F__is_full.fn.kp F__is_full.b pass0 (pa_cons (pv 0) (pa_cons (pv 1) (pa_cons (pv 2) (pa_cons (pv 3) pa_nil)))))))))))

abbrev s_shows_posts_ : Stmt := topS 9
abbrev N_shows_posts : List Str := ["town", "chart", "posts", "thing", "choices", "least", "post"]
theorem sc_shows_posts : FnScope N_shows_posts ["town", "chart", "posts", "thing"] (defScope s_shows_posts_) := ⟨rfl, rfl, rfl, by decide +kernel, rfl, by decide +kernel, by decide +kernel⟩
def t_shows_posts (K : PySem.W.Frag) (s_StandChoices____init__ : Sp) (s_StandChoices__ordered : Sp) (s__shows : Sp) (c_StandChoices : Addr) : TS :=
  tSeq (tAsg (tNewC s_StandChoices____init__ E0 c_StandChoices (tCons (tVar 0) (tCons (tVar 1) (tNil)))) (gName 4)) (tSeq (tAsg (tMth c_StandChoices "ordered" s_StandChoices__ordered E0 (tVar 4) (tCons (tLc (iU K (tVar 2)) (gName 6) (tYes) (tTupU (tCons (tVar 6) (tNil))) [6]) (tNil))) (gName 5)) (tRet (tGo s__shows E0 (tCons (tVar 4) (tCons (tCB (uLen K) (tCons (tVar 2) (tNil))) (tCons (tVar 5) (tCons (tLstU (tNil)) (tCons (tVar 3) (tNil)))))))))
theorem dv_shows_posts {P : Program} {w : World} {K : PySem.W.Frag} {mg : Str → Option Value} {b : Heap} {a : Addr} {d : FuncData} {sp : Sp} (F : Fn K mg "shows_posts" s_shows_posts_ a d ["town", "chart", "posts", "thing"])
    {c_StandChoices : Addr} (cl_StandChoices : Cls K c_StandChoices)
    {a_StandChoices____init__ : Addr} {d_StandChoices____init__ : FuncData} {s_StandChoices____init__ : Sp} (b_StandChoices____init__ : Binds K d_StandChoices____init__ ["self", "town", "chart"] []) (k_StandChoices____init__ : Keeps P w K mg b CX0 8 a_StandChoices____init__ d_StandChoices____init__ ["self", "town", "chart"] s_StandChoices____init__)
    {a_StandChoices__ordered : Addr} {d_StandChoices__ordered : FuncData} {s_StandChoices__ordered : Sp} (b_StandChoices__ordered : Binds K d_StandChoices__ordered ["self", "chosen"] []) (k_StandChoices__ordered : Keeps P w K mg b CX0 2 a_StandChoices__ordered d_StandChoices__ordered ["self", "chosen"] s_StandChoices__ordered)
    {a__shows : Addr} {d__shows : FuncData} {s__shows : Sp} (F__shows : Fn K mg "_shows" s__shows_ a__shows d__shows ["choices", "most", "least", "chosen", "thing"]) (k__shows : Keeps P w K mg b CX0 25 a__shows d__shows ["choices", "most", "least", "chosen", "thing"] s__shows)
    (n_len : mg "len" = none)
    (M_StandChoices : L2.Mk K c_StandChoices a_StandChoices____init__) (g_StandChoices : mg "StandChoices" = some (.ref c_StandChoices))
    (me_StandChoices__ordered : Meth K c_StandChoices "ordered" a_StandChoices__ordered)
    (len : ∀ vs H Q E, sp vs H Q E → vs.length = 4)
    (rd : ∀ vs H Q E, sp vs H Q E → run (t_shows_posts K s_StandChoices____init__ s_StandChoices__ordered s__shows c_StandChoices) (start N_shows_posts vs) H Q) : Keeps P w K mg b CX0 26 a d ["town", "chart", "posts", "thing"] sp := by
  refine keeps0 F.fn sc_shows_posts len fun cdv A o s H vs Q E hr h => ⟨t_shows_posts K s_StandChoices____init__ s_StandChoices__ordered s__shows c_StandChoices, ?_, rd vs H Q E h⟩
  unfold t_shows_posts 
  exact (pss_cons (ps_set (i := 4) sc_shows_posts.nd rfl (.inl rfl) (pe_newC M_StandChoices k_StandChoices____init__ (hr.mono (by decide)) rfl g_StandChoices b_StandChoices____init__ pass0 (pa_cons (pv 0) (pa_cons (pv 1) pa_nil))))
  (pss_cons (ps_set (i := 5) sc_shows_posts.nd rfl (.inl rfl) (pe_mth (pv 4) cl_StandChoices me_StandChoices__ordered k_StandChoices__ordered (hr.mono (by decide)) b_StandChoices__ordered pass0 (pa_cons (pe_lc (own := [("post", 6)]) rfl sc_shows_posts.nd (pi_u (pv 2)) (blkOk_by (own := [("post", 6)]) (N := N_shows_posts) (sc := defScope s_shows_posts_) (by decide +kernel)) (fun _ _ _ _ _ => (pg_name (i := 6) sc_shows_posts.nd rfl (.inl rfl))) (fun _ _ _ _ _ => pts_nil) (fun _ _ _ _ _ => (pe_tupU (pa_cons (pv 6) pa_nil)))) pa_nil)))
  (pss_one (ps_ret (pe_go k__shows (hr.mono (by decide)) rfl F__shows.g F__shows.fn.kp F__shows.b pass0 (pa_cons (pv 4) (pa_cons (pe_callB call_uLen (by rfl) n_len (by decide +kernel) (pa_cons (pv 2) pa_nil)) (pa_cons (pv 5) (pa_cons (pe_lstU pa_nil) (pa_cons (pv 3) pa_nil))))))))))

abbrev s__law_held_ : Stmt := topS 17
abbrev N__law_held : List Str := ["script"]
theorem sc__law_held : FnScope N__law_held ["script"] (defScope s__law_held_) := ⟨rfl, rfl, rfl, by decide +kernel, rfl, by decide +kernel, by decide +kernel⟩
def t__law_held (K : PySem.W.Frag) : TS :=
  tRet (tDisp ((tC (.str "cells"), tCB (uList K) (tCons (tSl (uSl K) (tVar 0) (tNoPart) (tPart (tC (.int 63)))) (tNil))) :: ((tC (.str "at"), tC (.int 0)) :: ((tC (.str "left"), tC (.int 0)) :: []))))
theorem dv__law_held {P : Program} {w : World} {K : PySem.W.Frag} {mg : Str → Option Value} {b : Heap} {a : Addr} {d : FuncData} {sp : Sp} (F : Fn K mg "_law_held" s__law_held_ a d ["script"])
    (n_list : mg "list" = none)
    (len : ∀ vs H Q E, sp vs H Q E → vs.length = 1)
    (rd : ∀ vs H Q E, sp vs H Q E → run (t__law_held K) (start N__law_held vs) H Q) : Keeps P w K mg b CX0 2 a d ["script"] sp := by
  refine keeps0 F.fn sc__law_held len fun cdv A o s H vs Q E hr h => ⟨t__law_held K, ?_, rd vs H Q E h⟩
  unfold t__law_held 
  exact (pss_one (ps_ret (pe_disp (pps_cons pe_str (pe_callTy call_uList (by rfl) n_list (by decide +kernel) (pa_cons (pe_slice sl_u (pv 0) po_none (po_some pe_int)) pa_nil)) (pps_cons pe_str pe_int (pps_cons pe_str pe_int pps_nil))) (by rfl) (by rfl) (fun z => by cases z) (by decide))))

abbrev s__law_draw_ : Stmt := topS 18
abbrev N__law_draw : List Str := ["held", "many", "found", "at", "cell", "number"]
theorem sc__law_draw : FnScope N__law_draw ["held", "many"] (defScope s__law_draw_) := ⟨rfl, rfl, rfl, by decide +kernel, rfl, by decide +kernel, by decide +kernel⟩
def t__law_draw_r1 (K : PySem.W.Frag) : TS :=
  tSeq (tAsg (tOp (rI (fun _ j => 0 < j) fun i j => .int (i % j)) (tOp (uAdd K) (tOp (uAdd K) (tOp (uAdd K) (tOp uMul (tOp (rI (fun _ j => 0 < j) fun i j => .int (i % j)) (tVar 4) (tC (.int 2147483587))) (tC (.int 40692))) (tOp uMul (tOp uMul (tC (.int 7907)) (tVar 3)) (tVar 3))) (tOp uMul (tC (.int 104729)) (tVar 3))) (tC (.int 17))) (tC (.int 2147483629))) (gName 5)) (tSeq (tAsg (tOp (rI (fun _ j => 0 < j) fun i j => .int (i % j)) (tOp (uAdd K) (tOp (uAdd K) (tOp uMul (tVar 5) (tC (.int 48271))) (tOp (rI CDiv fun i j => .int (i / j)) (tVar 5) (tC (.int 127)))) (tC (.int 31))) (tC (.int 2147483647))) (gName 5)) (tRet (tOp (rI (fun _ j => 0 < j) fun i j => .int (i % j)) (tOp (rI CDiv fun i j => .int (i / j)) (tVar 5) (tC (.int 89))) (tVar 1))))
def t__law_draw_r2 (K : PySem.W.Frag) : TS :=
  tSeq (tAsg (tDGet (tVar 0) (tC (.str "at"))) (gName 3)) (tSeq (sDPut (tVar 0) (tC (.str "at")) (tOp (uAdd K) (tVar 3) (tC (.int 1)))) (tSeq (tAsg (tIf (tTest (tOp (uEq K true) (tDGet (tVar 0) (tC (.str "cells"))) (tLstU (tNil)))) (tOp (uIx K) (tDGet (tVar 0) (tC (.str "cells"))) (tOp (rI (fun _ j => 0 < j) fun i j => .int (i % j)) (tVar 3) (tCB (uLen K) (tCons (tDGet (tVar 0) (tC (.str "cells"))) (tNil))))) (tC (.int 0))) (gName 4)) (tSeq (tIfS (tAnd (tTest (tOp (rI0 fun i j => .bl (decide (j ≤ i))) (tVar 4) (tOp (rI CPow fun i j => .int (i ^ j.toNat)) (tC (.int 10)) (tC (.int 18))))) (tTest (tOp (rI0 fun i j => .bl (decide (i < j))) (tVar 3) (tCB (uLen K) (tCons (tDGet (tVar 0) (tC (.str "cells"))) (tNil)))))) (tSeq (sDPut (tVar 0) (tC (.str "left")) (tOp (rI CDiv fun i j => .int (i / j)) (tOp (rI0 fun i j => .int (i - j)) (tVar 4) (tOp (rI CPow fun i j => .int (i ^ j.toNat)) (tC (.int 10)) (tC (.int 18)))) (tVar 1))) (tRet (tOp (rI (fun _ j => 0 < j) fun i j => .int (i % j)) (tOp (rI0 fun i j => .int (i - j)) (tVar 4) (tOp (rI CPow fun i j => .int (i ^ j.toNat)) (tC (.int 10)) (tC (.int 18)))) (tVar 1)))) (tNext)) (t__law_draw_r1 K))))
def t__law_draw (K : PySem.W.Frag) : TS :=
  tSeq (tIfS (tTest (tOp (rI0 fun i j => .bl (decide (j < i))) (tDGet (tVar 0) (tC (.str "left"))) (tC (.int 0)))) (tSeq (tAsg (tOp (rI (fun _ j => 0 < j) fun i j => .int (i % j)) (tDGet (tVar 0) (tC (.str "left"))) (tVar 1)) (gName 2)) (tSeq (sDPut (tVar 0) (tC (.str "left")) (tOp (rI CDiv fun i j => .int (i / j)) (tDGet (tVar 0) (tC (.str "left"))) (tVar 1))) (tRet (tVar 2)))) (tNext)) (t__law_draw_r2 K)
theorem dv__law_draw {P : Program} {w : World} {K : PySem.W.Frag} {mg : Str → Option Value} {b : Heap} {a : Addr} {d : FuncData} {sp : Sp} (F : Fn K mg "_law_draw" s__law_draw_ a d ["held", "many"])
    (n_len : mg "len" = none)
    (len : ∀ vs H Q E, sp vs H Q E → vs.length = 2)
    (rd : ∀ vs H Q E, sp vs H Q E → run (t__law_draw K) (start N__law_draw vs) H Q) : Keeps P w K mg b CX0 2 a d ["held", "many"] sp := by
  refine keeps0 F.fn sc__law_draw len fun cdv A o s H vs Q E hr h => ⟨t__law_draw K, ?_, rd vs H Q E h⟩
  unfold t__law_draw t__law_draw_r2 t__law_draw_r1
  exact (pss_cons (ps_if (pt_cmpR op_gt (pe_dget (hu_of hr.rm) (pv 0) pe_str (fun _ _ => rfl)) pe_int (nomark _)) (pss_cons (ps_set (i := 2) sc__law_draw.nd rfl (.inl rfl) (pe_op op_mod (pe_dget (hu_of hr.rm) (pv 0) pe_str (fun _ _ => rfl)) (pv 1)))
  (pss_cons (ps_dput (hu_of hr.rm) (pv 0) pe_str (pe_op op_fdiv (pe_dget (hu_of hr.rm) (pv 0) pe_str (fun _ _ => rfl)) (pv 1)) rfl)
  (pss_one (ps_ret (pv 2))))) pss_nil)
  (pss_cons (ps_set (i := 3) sc__law_draw.nd rfl (.inl rfl) (pe_dget (hu_of hr.rm) (pv 0) pe_str (fun _ _ => rfl)))
  (pss_cons (ps_dput (hu_of hr.rm) (pv 0) pe_str (pe_op op_uAdd (pv 3) pe_int) rfl)
  (pss_cons (ps_set (i := 4) sc__law_draw.nd rfl (.inl rfl) (pe_ifExp (pt_cmpR (op_uNe hr.rm.units) (pe_dget (hu_of hr.rm) (pv 0) pe_str (fun _ _ => rfl)) (pe_lstU pa_nil) (nomark _)) (pe_ix ix_u (pe_dget (hu_of hr.rm) (pv 0) pe_str (fun _ _ => rfl)) (pe_op op_mod (pv 3) (pe_callB call_uLen (by rfl) n_len (by decide +kernel) (pa_cons (pe_dget (hu_of hr.rm) (pv 0) pe_str (fun _ _ => rfl)) pa_nil))) (fun _ _ => rfl)) pe_int))
  (pss_cons (ps_if (PW.pt (pw_and (pt_cmpR op_ge (pv 4) (pe_op op_pow pe_int pe_int) (nomark _)) (pw_and1 (pt_cmpR op_lt (pv 3) (pe_callB call_uLen (by rfl) n_len (by decide +kernel) (pa_cons (pe_dget (hu_of hr.rm) (pv 0) pe_str (fun _ _ => rfl)) pa_nil)) (nomark _))))) (pss_cons (ps_dput (hu_of hr.rm) (pv 0) pe_str (pe_op op_fdiv (pe_op op_sub (pv 4) (pe_op op_pow pe_int pe_int)) (pv 1)) rfl)
  (pss_one (ps_ret (pe_op op_mod (pe_op op_sub (pv 4) (pe_op op_pow pe_int pe_int)) (pv 1))))) pss_nil)
  (pss_cons (ps_set (i := 5) sc__law_draw.nd rfl (.inl rfl) (pe_op op_mod (pe_op op_uAdd (pe_op op_uAdd (pe_op op_uAdd (pe_op op_uMul (pe_op op_mod (pv 4) pe_int) pe_int) (pe_op op_uMul (pe_op op_uMul pe_int (pv 3)) (pv 3))) (pe_op op_uMul pe_int (pv 3))) pe_int) pe_int))
  (pss_cons (ps_set (i := 5) sc__law_draw.nd rfl (.inl rfl) (pe_op op_mod (pe_op op_uAdd (pe_op op_uAdd (pe_op op_uMul (pv 5) pe_int) (pe_op op_fdiv (pv 5) pe_int)) pe_int) pe_int))
  (pss_one (ps_ret (pe_op op_mod (pe_op op_fdiv (pv 5) pe_int) (pv 1)))))))))))

abbrev s__law_some_ : Stmt := topS 19
abbrev N__law_some : List Str := ["held", "things", "many", "left", "found", "turn"]
theorem sc__law_some : FnScope N__law_some ["held", "things", "many"] (defScope s__law_some_) := ⟨rfl, rfl, rfl, by decide +kernel, rfl, by decide +kernel, by decide +kernel⟩
def t__law_some_b1 (K : PySem.W.Frag) (s__law_draw : Sp) : TS :=
  tDrop (tBM K "list" uAppend (tVar 4) (tCons (tBM K "list" uPopAt (tVar 3) (tCons (tGo s__law_draw E0 (tCons (tVar 0) (tCons (tCB (uLen K) (tCons (tVar 3) (tNil))) (tNil)))) (tNil))) (tNil)))
def t__law_some_r1 (K : PySem.W.Frag) (s__law_draw : Sp) : TS :=
  tRet (tVar 4)
def t__law_some (K : PySem.W.Frag) (s__law_draw : Sp) : TS :=
  tSeq (tAsg (tCB (uList K) (tCons (tVar 1) (tNil))) (gName 3)) (tSeq (tAsg (tLstU (tNil)) (gName 4)) (tSeq (tFor (iRng1 (tCons (tVar 2) (tNil))) (gName 5) (t__law_some_b1 K s__law_draw)) (t__law_some_r1 K s__law_draw)))
theorem dv__law_some {P : Program} {w : World} {K : PySem.W.Frag} {mg : Str → Option Value} {b : Heap} {a : Addr} {d : FuncData} {sp : Sp} (F : Fn K mg "_law_some" s__law_some_ a d ["held", "things", "many"])
    (n_list : mg "list" = none)
    (n_range : mg "range" = none)
    {a__law_draw : Addr} {d__law_draw : FuncData} {s__law_draw : Sp} (F__law_draw : Fn K mg "_law_draw" s__law_draw_ a__law_draw d__law_draw ["held", "many"]) (k__law_draw : Keeps P w K mg b CX0 2 a__law_draw d__law_draw ["held", "many"] s__law_draw)
    (n_len : mg "len" = none)
    (len : ∀ vs H Q E, sp vs H Q E → vs.length = 3)
    (rd : ∀ vs H Q E, sp vs H Q E → run (t__law_some K s__law_draw) (start N__law_some vs) H Q) : Keeps P w K mg b CX0 3 a d ["held", "things", "many"] sp := by
  refine keeps0 F.fn sc__law_some len fun cdv A o s H vs Q E hr h => ⟨t__law_some K s__law_draw, ?_, rd vs H Q E h⟩
  unfold t__law_some t__law_some_r1 t__law_some_b1
  exact (pss_cons (ps_set (i := 3) sc__law_some.nd rfl (.inl rfl) (pe_callTy call_uList (by rfl) n_list (by decide +kernel) (pa_cons (pv 1) pa_nil)))
  (pss_cons (ps_set (i := 4) sc__law_some.nd rfl (.inl rfl) (pe_lstU pa_nil))
  (pss_cons (ps_for PassesOwn.never rfl (pi_range1 (by rfl) n_range (pa_cons (pv 2) pa_nil)) (pg_name (i := 5) sc__law_some.nd rfl (.inl rfl)) (pss_one (ps_expr (pe_bm PySem.F.plainAttrs_list PySem.F.slot_list_append PySem.F.type_list_append mt_uAppend (pv 4) (pa_cons (pe_bm PySem.F.plainAttrs_list PySem.F.slot_list_pop PySem.F.type_list_pop mt_uPopAt (pv 3) (pa_cons (pe_go k__law_draw (hr.mono (by decide)) rfl F__law_draw.g F__law_draw.fn.kp F__law_draw.b pass0 (pa_cons (pv 0) (pa_cons (pe_callB call_uLen (by rfl) n_len (by decide +kernel) (pa_cons (pv 3) pa_nil)) pa_nil))) pa_nil)) pa_nil)))))
  (pss_one (ps_ret (pv 4))))))

abbrev s__law_names_ : Stmt := topS 20
abbrev N__law_names : List Str := ["held", "many", "signs", "size", "k", "base", "at", "begin", "step", "lot", "words", "found", "tail"]
theorem sc__law_names : FnScope N__law_names ["held", "many"] (defScope s__law_names_) := ⟨rfl, rfl, rfl, by decide +kernel, rfl, by decide +kernel, by decide +kernel⟩
def t__law_names_b1 (K : PySem.W.Frag) (s__law_draw : Sp) : TS :=
  tSeq (tAsg (tSl (uSl K) (tVar 5) (tPart (tVar 6)) (tPart (tOp (uAdd K) (tVar 6) (tOp (uIx K) (tLstU (tCons (tC (.int 8)) (tCons (tOp (rI (fun _ j => 0 < j) fun i j => .int (i % j)) (tVar 4) (tOp (uAdd K) (tOp (rI0 fun i j => .int (i - j)) (tVar 3) (tVar 6)) (tC (.int 1)))) (tNil)))) (tVar 9))))) (gName 12)) (tDrop (tBM K "list" uAppend (tVar 11) (tCons (tOp (uAdd K) (tOp (uAdd K) (tSl (uSl K) (tVar 5) (tNoPart) (tPart (tVar 6))) (tOp (uIx K) (tVar 2) (tOp (rI (fun _ j => 0 < j) fun i j => .int (i % j)) (tOp (uAdd K) (tVar 7) (tOp uMul (tVar 8) (tVar 4))) (tC (.int 26))))) (tVar 12)) (tNil))))
def t__law_names_r1 (K : PySem.W.Frag) (s__law_draw : Sp) : TS :=
  tRet (tVar 11)
def t__law_names_r2 (K : PySem.W.Frag) (s__law_draw : Sp) : TS :=
  tSeq (tAsg (tLstU (tNil)) (gName 11)) (tSeq (tFor (iRng1 (tCons (tVar 1) (tNil))) (gName 4) (t__law_names_b1 K s__law_draw)) (t__law_names_r1 K s__law_draw))
def t__law_names (K : PySem.W.Frag) (s__law_draw : Sp) : TS :=
  tSeq (tAsg (tC (.str "abcdefghijklmnopqrstuvwxyz0123456789")) (gName 2)) (tSeq (tAsg (tGo s__law_draw E0 (tCons (tVar 0) (tCons (tC (.int 8)) (tNil)))) (gName 3)) (tSeq (tAsg (tM1 (uJoin K) (tC (.str "")) (tLc (iRng1 (tCons (tVar 3) (tNil))) (gName 4) (tYes) (tOp (uIx K) (tVar 2) (tGo s__law_draw E0 (tCons (tVar 0) (tCons (tOp (uIx K) (tLstU (tCons (tC (.int 36)) (tCons (tC (.int 26)) (tNil)))) (tCB (uInt) (tCons (tOp (uEq K false) (tVar 4) (tC (.int 0))) (tNil)))) (tNil))))) [4])) (gName 5)) (tSeq (tAsg (tGo s__law_draw E0 (tCons (tVar 0) (tCons (tOp (uAdd K) (tVar 3) (tC (.int 1))) (tNil)))) (gName 6)) (tSeq (tAsg (tTupU (tCons (tGo s__law_draw E0 (tCons (tVar 0) (tCons (tC (.int 26)) (tNil)))) (tCons (tOp (uIx K) (tLstU (tCons (tC (.int 1)) (tCons (tC (.int 3)) (tCons (tC (.int 5)) (tCons (tC (.int 7)) (tCons (tC (.int 9)) (tCons (tC (.int 11)) (tCons (tC (.int 15)) (tCons (tC (.int 17)) (tNil)))))))))) (tGo s__law_draw E0 (tCons (tVar 0) (tCons (tC (.int 8)) (tNil))))) (tCons (tGo s__law_draw E0 (tCons (tVar 0) (tCons (tC (.int 2)) (tNil)))) (tNil))))) (gTup K 3 (gCons (gName 7) (gCons (gName 8) (gCons (gName 9) (gNil)))))) (tSeq (tAsg (tM1 uSplit (tC (.str "free to at bare by full cut off on call done grade open")) (tC (.str " "))) (gName 10)) (tSeq (tAsg (tOp (uAdd K) (tVar 10) (tM1 uSplit (tC (.str "shut told passed none twice many busy sent held moved there stands drives")) (tC (.str " ")))) (gName 10)) (tSeq (tIfS (tTest (tOp (uEq K false) (tGo s__law_draw E0 (tCons (tVar 0) (tCons (tC (.int 4)) (tNil)))) (tC (.int 0)))) (tRet (tLc (iRng1 (tCons (tVar 1) (tNil))) (gName 4) (tYes) (tOp (uIx K) (tVar 10) (tOp (rI (fun _ j => 0 < j) fun i j => .int (i % j)) (tOp (uAdd K) (tVar 7) (tOp uMul (tVar 8) (tVar 4))) (tC (.int 26)))) [4])) (tNext)) (t__law_names_r2 K s__law_draw))))))))
theorem dv__law_names {P : Program} {w : World} {K : PySem.W.Frag} {mg : Str → Option Value} {b : Heap} {a : Addr} {d : FuncData} {sp : Sp} (F : Fn K mg "_law_names" s__law_names_ a d ["held", "many"])
    {a__law_draw : Addr} {d__law_draw : FuncData} {s__law_draw : Sp} (F__law_draw : Fn K mg "_law_draw" s__law_draw_ a__law_draw d__law_draw ["held", "many"]) (k__law_draw : Keeps P w K mg b CX0 2 a__law_draw d__law_draw ["held", "many"] s__law_draw)
    (n_range : mg "range" = none)
    (n_int : mg "int" = none)
    (len : ∀ vs H Q E, sp vs H Q E → vs.length = 2)
    (rd : ∀ vs H Q E, sp vs H Q E → run (t__law_names K s__law_draw) (start N__law_names vs) H Q) : Keeps P w K mg b CX0 3 a d ["held", "many"] sp := by
  refine keeps0 F.fn sc__law_names len fun cdv A o s H vs Q E hr h => ⟨t__law_names K s__law_draw, ?_, rd vs H Q E h⟩
  unfold t__law_names t__law_names_r2 t__law_names_r1 t__law_names_b1
  exact (pss_cons (ps_set (i := 2) sc__law_names.nd rfl (.inr rfl) pe_str)
  (pss_cons (ps_set (i := 3) sc__law_names.nd rfl (.inl rfl) (pe_go k__law_draw (hr.mono (by decide)) rfl F__law_draw.g F__law_draw.fn.kp F__law_draw.b pass0 (pa_cons (pv 0) (pa_cons pe_int pa_nil))))
  (pss_cons (ps_set (i := 5) sc__law_names.nd rfl (.inl rfl) (pe_uJoin pe_str (pe_lc (own := [("k", 4)]) rfl sc__law_names.nd (pi_range1 (by rfl) n_range (pa_cons (pv 3) pa_nil)) (blkOk_by (own := [("k", 4)]) (N := N__law_names) (sc := defScope s__law_names_) (by decide +kernel)) (fun _ _ _ _ _ => (pg_name (i := 4) sc__law_names.nd rfl (.inl rfl))) (fun _ _ _ _ _ => pts_nil) (fun _ _ _ _ _ => (pe_ix ix_u (pv 2) (pe_go k__law_draw (hr.mono (by decide)) rfl F__law_draw.g F__law_draw.fn.kp F__law_draw.b pass0 (pa_cons (pv 0) (pa_cons (pe_ix ix_u (pe_lstU (pa_cons pe_int (pa_cons pe_int pa_nil))) (pe_callTy call_uInt (by rfl) n_int (by decide +kernel) (pa_cons (pe_cmpR (op_uEq hr.rm.units) (pv 4) pe_int (nomark _)) pa_nil)) (fun _ _ => rfl)) pa_nil))) (fun _ _ => rfl))))))
  (pss_cons (ps_set (i := 6) sc__law_names.nd rfl (.inl rfl) (pe_go k__law_draw (hr.mono (by decide)) rfl F__law_draw.g F__law_draw.fn.kp F__law_draw.b pass0 (pa_cons (pv 0) (pa_cons (pe_op op_uAdd (pv 3) pe_int) pa_nil))))
  (pss_cons (ps_asg (pe_tupU (pa_cons (pe_go k__law_draw (hr.mono (by decide)) rfl F__law_draw.g F__law_draw.fn.kp F__law_draw.b pass0 (pa_cons (pv 0) (pa_cons pe_int pa_nil))) (pa_cons (pe_ix ix_u (pe_lstU (pa_cons pe_int (pa_cons pe_int (pa_cons pe_int (pa_cons pe_int (pa_cons pe_int (pa_cons pe_int (pa_cons pe_int (pa_cons pe_int pa_nil))))))))) (pe_go k__law_draw (hr.mono (by decide)) rfl F__law_draw.g F__law_draw.fn.kp F__law_draw.b pass0 (pa_cons (pv 0) (pa_cons pe_int pa_nil))) (fun _ _ => rfl)) (pa_cons (pe_go k__law_draw (hr.mono (by decide)) rfl F__law_draw.g F__law_draw.fn.kp F__law_draw.b pass0 (pa_cons (pv 0) (pa_cons pe_int pa_nil))) pa_nil)))) (pg_tup rfl (pgs_cons (pg_name (i := 7) sc__law_names.nd rfl (.inr rfl)) (pgs_cons (pg_name (i := 8) sc__law_names.nd rfl (.inr rfl)) (pgs_cons (pg_name (i := 9) sc__law_names.nd rfl (.inl rfl)) pgs_nil)))))
  (pss_cons (ps_set (i := 10) sc__law_names.nd rfl (.inr rfl) (pe_uSplit pe_str pe_str))
  (pss_cons (ps_set (i := 10) sc__law_names.nd rfl (.inr rfl) (pe_op op_uAdd (pv 10) (pe_uSplit pe_str pe_str)))
  (pss_cons (ps_if (pt_cmpR (op_uEq hr.rm.units) (pe_go k__law_draw (hr.mono (by decide)) rfl F__law_draw.g F__law_draw.fn.kp F__law_draw.b pass0 (pa_cons (pv 0) (pa_cons pe_int pa_nil))) pe_int (nomark _)) (pss_one (ps_ret (pe_lc (own := [("k", 4)]) rfl sc__law_names.nd (pi_range1 (by rfl) n_range (pa_cons (pv 1) pa_nil)) (blkOk_by (own := [("k", 4)]) (N := N__law_names) (sc := defScope s__law_names_) (by decide +kernel)) (fun _ _ _ _ _ => (pg_name (i := 4) sc__law_names.nd rfl (.inl rfl))) (fun _ _ _ _ _ => pts_nil) (fun _ _ _ _ _ => (pe_ix ix_u (pv 10) (pe_op op_mod (pe_op op_uAdd (pv 7) (pe_op op_uMul (pv 8) (pv 4))) pe_int) (fun _ _ => rfl)))))) pss_nil)
  (pss_cons (ps_set (i := 11) sc__law_names.nd rfl (.inl rfl) (pe_lstU pa_nil))
  (pss_cons (ps_for PassesOwn.never rfl (pi_range1 (by rfl) n_range (pa_cons (pv 1) pa_nil)) (pg_name (i := 4) sc__law_names.nd rfl (.inl rfl)) (pss_cons (ps_set (i := 12) sc__law_names.nd rfl (.inl rfl) (pe_slice sl_u (pv 5) (po_some (pv 6)) (po_some (pe_op op_uAdd (pv 6) (pe_ix ix_u (pe_lstU (pa_cons pe_int (pa_cons (pe_op op_mod (pv 4) (pe_op op_uAdd (pe_op op_sub (pv 3) (pv 6)) pe_int)) pa_nil))) (pv 9) (fun _ _ => rfl))))))
  (pss_one (ps_expr (pe_bm PySem.F.plainAttrs_list PySem.F.slot_list_append PySem.F.type_list_append mt_uAppend (pv 11) (pa_cons (pe_op op_uAdd (pe_op op_uAdd (pe_slice sl_u (pv 5) po_none (po_some (pv 6))) (pe_ix ix_u (pv 2) (pe_op op_mod (pe_op op_uAdd (pv 7) (pe_op op_uMul (pv 8) (pv 4))) pe_int) (fun _ _ => rfl))) (pv 12)) pa_nil))))))
  (pss_one (ps_ret (pv 11)))))))))))))

abbrev s__law_minutes_ : Stmt := topS 21
abbrev N__law_minutes : List Str := ["held", "found", "lot", "turn"]
theorem sc__law_minutes : FnScope N__law_minutes ["held"] (defScope s__law_minutes_) := ⟨rfl, rfl, rfl, by decide +kernel, rfl, by decide +kernel, by decide +kernel⟩
def t__law_minutes_r1 (K : PySem.W.Frag) (s__law_draw : Sp) : TS :=
  tRet (tVar 1)
def t__law_minutes (K : PySem.W.Frag) (s__law_draw : Sp) : TS :=
  tSeq (tAsg (tLc (iRng1 (tCons (tC (.int 2)) (tNil))) (gName 3) (tYes) (tOp (uIx K) (tLstU (tCons (tOp (uAdd K) (tC (.int 1)) (tGo s__law_draw E0 (tCons (tVar 0) (tCons (tC (.int 7)) (tNil))))) (tCons (tOp (uAdd K) (tC (.int 1)) (tGo s__law_draw E0 (tCons (tVar 0) (tCons (tC (.int 60)) (tNil))))) (tNil)))) (tGo s__law_draw E0 (tCons (tVar 0) (tCons (tC (.int 2)) (tNil))))) [3]) (gName 1)) (tSeq (tAsg (tGo s__law_draw E0 (tCons (tVar 0) (tCons (tC (.int 6)) (tNil)))) (gName 2)) (tSeq (tIfS (tTest (tOp (rI0 fun i j => .bl (decide (i < j))) (tVar 2) (tC (.int 2)))) (tAsg (tC .non) (gSub (tVar 1) (tVar 2) uSetL)) (tNext)) (t__law_minutes_r1 K s__law_draw)))
theorem dv__law_minutes {P : Program} {w : World} {K : PySem.W.Frag} {mg : Str → Option Value} {b : Heap} {a : Addr} {d : FuncData} {sp : Sp} (F : Fn K mg "_law_minutes" s__law_minutes_ a d ["held"])
    (n_range : mg "range" = none)
    {a__law_draw : Addr} {d__law_draw : FuncData} {s__law_draw : Sp} (F__law_draw : Fn K mg "_law_draw" s__law_draw_ a__law_draw d__law_draw ["held", "many"]) (k__law_draw : Keeps P w K mg b CX0 2 a__law_draw d__law_draw ["held", "many"] s__law_draw)
    (len : ∀ vs H Q E, sp vs H Q E → vs.length = 1)
    (rd : ∀ vs H Q E, sp vs H Q E → run (t__law_minutes K s__law_draw) (start N__law_minutes vs) H Q) : Keeps P w K mg b CX0 3 a d ["held"] sp := by
  refine keeps0 F.fn sc__law_minutes len fun cdv A o s H vs Q E hr h => ⟨t__law_minutes K s__law_draw, ?_, rd vs H Q E h⟩
  unfold t__law_minutes t__law_minutes_r1
  exact (pss_cons (ps_setLc (i := 1) (own := [("turn", 3)]) rfl sc__law_minutes.nd rfl rfl (sw_true rfl rfl rfl (by decide +kernel)) (pi_range1 (by rfl) n_range (pa_cons pe_int pa_nil)) (blkOk_by (own := [("turn", 3)]) (N := N__law_minutes) (sc := defScope s__law_minutes_) (by decide +kernel)) (fun _ _ _ _ _ => (pg_name (i := 3) sc__law_minutes.nd rfl (.inl rfl))) (fun _ _ _ _ _ => pts_nil) (fun _ _ _ _ _ => (pe_ix ix_u (pe_lstU (pa_cons (pe_op op_uAdd pe_int (pe_go k__law_draw (hr.mono (by decide)) rfl F__law_draw.g F__law_draw.fn.kp F__law_draw.b pass0 (pa_cons (pv 0) (pa_cons pe_int pa_nil)))) (pa_cons (pe_op op_uAdd pe_int (pe_go k__law_draw (hr.mono (by decide)) rfl F__law_draw.g F__law_draw.fn.kp F__law_draw.b pass0 (pa_cons (pv 0) (pa_cons pe_int pa_nil)))) pa_nil))) (pe_go k__law_draw (hr.mono (by decide)) rfl F__law_draw.g F__law_draw.fn.kp F__law_draw.b pass0 (pa_cons (pv 0) (pa_cons pe_int pa_nil))) (fun _ _ => rfl))))
  (pss_cons (ps_set (i := 2) sc__law_minutes.nd rfl (.inl rfl) (pe_go k__law_draw (hr.mono (by decide)) rfl F__law_draw.g F__law_draw.fn.kp F__law_draw.b pass0 (pa_cons (pv 0) (pa_cons pe_int pa_nil))))
  (pss_cons (ps_if (pt_cmpR op_lt (pv 2) pe_int (nomark _)) (pss_one (ps_asg pe_non (pg_sub (pv 1) (pv 2) set_u))) pss_nil)
  (pss_one (ps_ret (pv 1))))))

abbrev s__law_town_ : Stmt := topS 22
abbrev N__law_town : List Str := ["held", "many", "places", "roads", "lot", "k", "one", "other", "there", "back", "stands", "reach"]
theorem sc__law_town : FnScope N__law_town ["held"] (defScope s__law_town_) := ⟨rfl, rfl, rfl, by decide +kernel, rfl, by decide +kernel, by decide +kernel⟩
def t__law_town_b1 (K : PySem.W.Frag) (s__law_draw : Sp) (s__law_names : Sp) (s__law_minutes : Sp) (s__law_some : Sp) : TS :=
  tSeq (tAsg (tOp (uIx K) (tLstU (tCons (tOp (rI (fun _ j => 0 < j) fun i j => .int (i % j)) (tVar 5) (tVar 1)) (tCons (tC (.int 0)) (tCons (tGo s__law_draw E0 (tCons (tVar 0) (tCons (tVar 1) (tNil)))) (tNil))))) (tVar 4)) (gName 6)) (tSeq (tAsg (tOp (rI (fun _ j => 0 < j) fun i j => .int (i % j)) (tOp (uAdd K) (tVar 6) (tOp (uIx K) (tLstU (tCons (tC (.int 1)) (tCons (tOp (uAdd K) (tC (.int 1)) (tOp (rI (fun _ j => 0 < j) fun i j => .int (i % j)) (tVar 5) (tCB uMax2 (tCons (tC (.int 1)) (tCons (tOp (rI0 fun i j => .int (i - j)) (tVar 1) (tC (.int 1))) (tNil)))))) (tCons (tOp (uAdd K) (tC (.int 1)) (tGo s__law_draw E0 (tCons (tVar 0) (tCons (tCB uMax2 (tCons (tC (.int 1)) (tCons (tOp (rI0 fun i j => .int (i - j)) (tVar 1) (tC (.int 1))) (tNil)))) (tNil))))) (tNil))))) (tVar 4))) (tVar 1)) (gName 7)) (tSeq (tAsg (tGo s__law_minutes E0 (tCons (tVar 0) (tNil))) (gUnl K 2 (gCons (gName 8) (gCons (gName 9) (gNil))))) (tDrop (tBM K "list" uAppend (tVar 3) (tCons (tTupU (tCons (tOp (uIx K) (tVar 2) (tVar 6)) (tCons (tOp (uIx K) (tVar 2) (tVar 7)) (tCons (tVar 8) (tCons (tVar 9) (tNil)))))) (tNil))))))
def t__law_town_r1 (K : PySem.W.Frag) (s__law_draw : Sp) (s__law_names : Sp) (s__law_minutes : Sp) (s__law_some : Sp) : TS :=
  tSeq (tAsg (tGo s__law_some E0 (tCons (tVar 0) (tCons (tVar 2) (tCons (tOp (uAdd K) (tC (.int 1)) (tGo s__law_draw E0 (tCons (tVar 0) (tCons (tCB uMin2 (tCons (tC (.int 5)) (tCons (tVar 1) (tNil)))) (tNil))))) (tNil))))) (gName 10)) (tSeq (tAsg (tLstU (tCons (tGo s__law_draw E0 (tCons (tVar 0) (tCons (tC (.int 9)) (tNil)))) (tCons (tGo s__law_draw E0 (tCons (tVar 0) (tCons (tC (.int 31)) (tNil)))) (tCons (tGo s__law_draw E0 (tCons (tVar 0) (tCons (tC (.int 121)) (tNil)))) (tCons (tOp (uIx K) (tLstU (tCons (tC (.int 0)) (tCons (tC (.int 120)) (tNil)))) (tGo s__law_draw E0 (tCons (tVar 0) (tCons (tC (.int 2)) (tNil))))) (tNil)))))) (gName 11)) (tRet (tTupU (tCons (tCB (uTuple K) (tCons (tVar 2) (tNil))) (tCons (tCB (uTuple K) (tCons (tVar 3) (tNil))) (tCons (tCB (uTuple K) (tCons (tVar 10) (tNil))) (tCons (tOp (uIx K) (tVar 11) (tGo s__law_draw E0 (tCons (tVar 0) (tCons (tC (.int 4)) (tNil))))) (tNil))))))))
def t__law_town (K : PySem.W.Frag) (s__law_draw : Sp) (s__law_names : Sp) (s__law_minutes : Sp) (s__law_some : Sp) : TS :=
  tSeq (tAsg (tOp (uAdd K) (tC (.int 1)) (tGo s__law_draw E0 (tCons (tVar 0) (tCons (tC (.int 10)) (tNil))))) (gName 1)) (tSeq (tAsg (tGo s__law_names E0 (tCons (tVar 0) (tCons (tVar 1) (tNil)))) (gName 2)) (tSeq (tAsg (tLstU (tNil)) (gName 3)) (tSeq (tAsg (tGo s__law_draw E0 (tCons (tVar 0) (tCons (tC (.int 3)) (tNil)))) (gName 4)) (tSeq (tFor (iRng1 (tCons (tOp (uIx K) (tLstU (tCons (tC (.int 0)) (tCons (tGo s__law_draw E0 (tCons (tVar 0) (tCons (tC (.int 19)) (tNil)))) (tNil)))) (tCB (uInt) (tCons (tOp (rI0 fun i j => .bl (decide (j < i))) (tVar 1) (tC (.int 1))) (tNil)))) (tNil))) (gName 5) (t__law_town_b1 K s__law_draw s__law_names s__law_minutes s__law_some)) (t__law_town_r1 K s__law_draw s__law_names s__law_minutes s__law_some)))))
theorem dv__law_town {P : Program} {w : World} {K : PySem.W.Frag} {mg : Str → Option Value} {b : Heap} {a : Addr} {d : FuncData} {sp : Sp} (F : Fn K mg "_law_town" s__law_town_ a d ["held"])
    {a__law_draw : Addr} {d__law_draw : FuncData} {s__law_draw : Sp} (F__law_draw : Fn K mg "_law_draw" s__law_draw_ a__law_draw d__law_draw ["held", "many"]) (k__law_draw : Keeps P w K mg b CX0 2 a__law_draw d__law_draw ["held", "many"] s__law_draw)
    {a__law_names : Addr} {d__law_names : FuncData} {s__law_names : Sp} (F__law_names : Fn K mg "_law_names" s__law_names_ a__law_names d__law_names ["held", "many"]) (k__law_names : Keeps P w K mg b CX0 3 a__law_names d__law_names ["held", "many"] s__law_names)
    (n_range : mg "range" = none)
    (n_int : mg "int" = none)
    (n_max : mg "max" = none)
    {a__law_minutes : Addr} {d__law_minutes : FuncData} {s__law_minutes : Sp} (F__law_minutes : Fn K mg "_law_minutes" s__law_minutes_ a__law_minutes d__law_minutes ["held"]) (k__law_minutes : Keeps P w K mg b CX0 3 a__law_minutes d__law_minutes ["held"] s__law_minutes)
    {a__law_some : Addr} {d__law_some : FuncData} {s__law_some : Sp} (F__law_some : Fn K mg "_law_some" s__law_some_ a__law_some d__law_some ["held", "things", "many"]) (k__law_some : Keeps P w K mg b CX0 3 a__law_some d__law_some ["held", "things", "many"] s__law_some)
    (n_min : mg "min" = none)
    (n_tuple : mg "tuple" = none)
    (len : ∀ vs H Q E, sp vs H Q E → vs.length = 1)
    (rd : ∀ vs H Q E, sp vs H Q E → run (t__law_town K s__law_draw s__law_names s__law_minutes s__law_some) (start N__law_town vs) H Q) : Keeps P w K mg b CX0 4 a d ["held"] sp := by
  refine keeps0 F.fn sc__law_town len fun cdv A o s H vs Q E hr h => ⟨t__law_town K s__law_draw s__law_names s__law_minutes s__law_some, ?_, rd vs H Q E h⟩
  unfold t__law_town t__law_town_r1 t__law_town_b1
  exact (pss_cons (ps_set (i := 1) sc__law_town.nd rfl (.inl rfl) (pe_op op_uAdd pe_int (pe_go k__law_draw (hr.mono (by decide)) rfl F__law_draw.g F__law_draw.fn.kp F__law_draw.b pass0 (pa_cons (pv 0) (pa_cons pe_int pa_nil)))))
  (pss_cons (ps_set (i := 2) sc__law_town.nd rfl (.inl rfl) (pe_go k__law_names (hr.mono (by decide)) rfl F__law_names.g F__law_names.fn.kp F__law_names.b pass0 (pa_cons (pv 0) (pa_cons (pv 1) pa_nil))))
  (pss_cons (ps_set (i := 3) sc__law_town.nd rfl (.inl rfl) (pe_lstU pa_nil))
  (pss_cons (ps_set (i := 4) sc__law_town.nd rfl (.inl rfl) (pe_go k__law_draw (hr.mono (by decide)) rfl F__law_draw.g F__law_draw.fn.kp F__law_draw.b pass0 (pa_cons (pv 0) (pa_cons pe_int pa_nil))))
  (pss_cons (ps_for PassesOwn.never rfl (pi_range1 (by rfl) n_range (pa_cons (pe_ix ix_u (pe_lstU (pa_cons pe_int (pa_cons (pe_go k__law_draw (hr.mono (by decide)) rfl F__law_draw.g F__law_draw.fn.kp F__law_draw.b pass0 (pa_cons (pv 0) (pa_cons pe_int pa_nil))) pa_nil))) (pe_callTy call_uInt (by rfl) n_int (by decide +kernel) (pa_cons (pe_cmpR op_gt (pv 1) pe_int (nomark _)) pa_nil)) (fun _ _ => rfl)) pa_nil)) (pg_name (i := 5) sc__law_town.nd rfl (.inl rfl)) (pss_cons (ps_set (i := 6) sc__law_town.nd rfl (.inl rfl) (pe_ix ix_u (pe_lstU (pa_cons (pe_op op_mod (pv 5) (pv 1)) (pa_cons pe_int (pa_cons (pe_go k__law_draw (hr.mono (by decide)) rfl F__law_draw.g F__law_draw.fn.kp F__law_draw.b pass0 (pa_cons (pv 0) (pa_cons (pv 1) pa_nil))) pa_nil)))) (pv 4) (fun _ _ => rfl)))
  (pss_cons (ps_set (i := 7) sc__law_town.nd rfl (.inl rfl) (pe_op op_mod (pe_op op_uAdd (pv 6) (pe_ix ix_u (pe_lstU (pa_cons pe_int (pa_cons (pe_op op_uAdd pe_int (pe_op op_mod (pv 5) (pe_callB (call_uMax2 rfl) (by rfl) n_max (by decide +kernel) (pa_cons pe_int (pa_cons (pe_op op_sub (pv 1) pe_int) pa_nil))))) (pa_cons (pe_op op_uAdd pe_int (pe_go k__law_draw (hr.mono (by decide)) rfl F__law_draw.g F__law_draw.fn.kp F__law_draw.b pass0 (pa_cons (pv 0) (pa_cons (pe_callB (call_uMax2 rfl) (by rfl) n_max (by decide +kernel) (pa_cons pe_int (pa_cons (pe_op op_sub (pv 1) pe_int) pa_nil))) pa_nil)))) pa_nil)))) (pv 4) (fun _ _ => rfl))) (pv 1)))
  (pss_cons (ps_asg (pe_go k__law_minutes (hr.mono (by decide)) rfl F__law_minutes.g F__law_minutes.fn.kp F__law_minutes.b pass0 (pa_cons (pv 0) pa_nil)) (pg_unl rfl (pgs_cons (pg_name (i := 8) sc__law_town.nd rfl (.inl rfl)) (pgs_cons (pg_name (i := 9) sc__law_town.nd rfl (.inl rfl)) pgs_nil))))
  (pss_one (ps_expr (pe_bm PySem.F.plainAttrs_list PySem.F.slot_list_append PySem.F.type_list_append mt_uAppend (pv 3) (pa_cons (pe_tupU (pa_cons (pe_ix ix_u (pv 2) (pv 6) (fun _ _ => rfl)) (pa_cons (pe_ix ix_u (pv 2) (pv 7) (fun _ _ => rfl)) (pa_cons (pv 8) (pa_cons (pv 9) pa_nil))))) pa_nil))))))))
  (pss_cons (ps_set (i := 10) sc__law_town.nd rfl (.inl rfl) (pe_go k__law_some (hr.mono (by decide)) rfl F__law_some.g F__law_some.fn.kp F__law_some.b pass0 (pa_cons (pv 0) (pa_cons (pv 2) (pa_cons (pe_op op_uAdd pe_int (pe_go k__law_draw (hr.mono (by decide)) rfl F__law_draw.g F__law_draw.fn.kp F__law_draw.b pass0 (pa_cons (pv 0) (pa_cons (pe_callB (call_uMin2 rfl) (by rfl) n_min (by decide +kernel) (pa_cons pe_int (pa_cons (pv 1) pa_nil))) pa_nil)))) pa_nil)))))
  (pss_cons (ps_set (i := 11) sc__law_town.nd rfl (.inl rfl) (pe_lstU (pa_cons (pe_go k__law_draw (hr.mono (by decide)) rfl F__law_draw.g F__law_draw.fn.kp F__law_draw.b pass0 (pa_cons (pv 0) (pa_cons pe_int pa_nil))) (pa_cons (pe_go k__law_draw (hr.mono (by decide)) rfl F__law_draw.g F__law_draw.fn.kp F__law_draw.b pass0 (pa_cons (pv 0) (pa_cons pe_int pa_nil))) (pa_cons (pe_go k__law_draw (hr.mono (by decide)) rfl F__law_draw.g F__law_draw.fn.kp F__law_draw.b pass0 (pa_cons (pv 0) (pa_cons pe_int pa_nil))) (pa_cons (pe_ix ix_u (pe_lstU (pa_cons pe_int (pa_cons pe_int pa_nil))) (pe_go k__law_draw (hr.mono (by decide)) rfl F__law_draw.g F__law_draw.fn.kp F__law_draw.b pass0 (pa_cons (pv 0) (pa_cons pe_int pa_nil))) (fun _ _ => rfl)) pa_nil))))))
  (pss_one (ps_ret (pe_tupU (pa_cons (pe_callTy call_uTuple (by rfl) n_tuple (by decide +kernel) (pa_cons (pv 2) pa_nil)) (pa_cons (pe_callTy call_uTuple (by rfl) n_tuple (by decide +kernel) (pa_cons (pv 3) pa_nil)) (pa_cons (pe_callTy call_uTuple (by rfl) n_tuple (by decide +kernel) (pa_cons (pv 10) pa_nil)) (pa_cons (pe_ix ix_u (pv 11) (pe_go k__law_draw (hr.mono (by decide)) rfl F__law_draw.g F__law_draw.fn.kp F__law_draw.b pass0 (pa_cons (pv 0) (pa_cons pe_int pa_nil))) (fun _ _ => rfl)) pa_nil))))))))))))))

abbrev s__law_shut_ : Stmt := topS 23
abbrev N__law_shut : List Str := ["held", "town", "lot", "k"]
theorem sc__law_shut : FnScope N__law_shut ["held", "town"] (defScope s__law_shut_) := ⟨rfl, rfl, rfl, by decide +kernel, rfl, by decide +kernel, by decide +kernel⟩
def t__law_shut (K : PySem.W.Frag) (s__law_draw : Sp) : TS :=
  tSeq (tAsg (tGo s__law_draw E0 (tCons (tVar 0) (tCons (tC (.int 4)) (tNil)))) (gName 2)) (tRet (tCB (uTuple K) (tCons (tLc (iRng1 (tCons (tCB (uLen K) (tCons (tOp (uIx K) (tVar 1) (tC (.int 1))) (tNil))) (tNil))) (gName 3) (tOr (tTest (tOp (uEq K false) (tVar 2) (tC (.int 3)))) (tAnd (tTest (tOp (rI0 fun i j => .bl (decide (j < i))) (tVar 2) (tC (.int 0)))) (tTest (tOp (uEq K false) (tGo s__law_draw E0 (tCons (tVar 0) (tCons (tC (.int 4)) (tNil)))) (tC (.int 0)))))) (tVar 3) [3]) (tNil))))
theorem dv__law_shut {P : Program} {w : World} {K : PySem.W.Frag} {mg : Str → Option Value} {b : Heap} {a : Addr} {d : FuncData} {sp : Sp} (F : Fn K mg "_law_shut" s__law_shut_ a d ["held", "town"])
    {a__law_draw : Addr} {d__law_draw : FuncData} {s__law_draw : Sp} (F__law_draw : Fn K mg "_law_draw" s__law_draw_ a__law_draw d__law_draw ["held", "many"]) (k__law_draw : Keeps P w K mg b CX0 2 a__law_draw d__law_draw ["held", "many"] s__law_draw)
    (n_tuple : mg "tuple" = none)
    (n_range : mg "range" = none)
    (n_len : mg "len" = none)
    (len : ∀ vs H Q E, sp vs H Q E → vs.length = 2)
    (rd : ∀ vs H Q E, sp vs H Q E → run (t__law_shut K s__law_draw) (start N__law_shut vs) H Q) : Keeps P w K mg b CX0 3 a d ["held", "town"] sp := by
  refine keeps0 F.fn sc__law_shut len fun cdv A o s H vs Q E hr h => ⟨t__law_shut K s__law_draw, ?_, rd vs H Q E h⟩
  unfold t__law_shut 
  exact (pss_cons (ps_set (i := 2) sc__law_shut.nd rfl (.inr rfl) (pe_go k__law_draw (hr.mono (by decide)) rfl F__law_draw.g F__law_draw.fn.kp F__law_draw.b pass0 (pa_cons (pv 0) (pa_cons pe_int pa_nil))))
  (pss_one (ps_ret (pe_callTy call_uTuple (by rfl) n_tuple (by decide +kernel) (pa_cons (pe_lc (own := [("k", 3)]) rfl sc__law_shut.nd (pi_range1 (by rfl) n_range (pa_cons (pe_callB call_uLen (by rfl) n_len (by decide +kernel) (pa_cons (pe_ix ix_u (pv 1) pe_int (fun _ _ => rfl)) pa_nil)) pa_nil)) (blkOk_by (own := [("k", 3)]) (N := N__law_shut) (sc := defScope s__law_shut_) (by decide +kernel)) (fun _ _ _ _ _ => (pg_name (i := 3) sc__law_shut.nd rfl (.inl rfl))) (fun _ _ _ _ _ => (pts_one (PW.pt (pw_or (pt_cmpR (op_uEq hr.rm.units) (pv 2) pe_int (nomark _)) (pw_or1 (PW.pt (pw_and (pt_cmpR op_gt (pv 2) pe_int (nomark _)) (pw_and1 (pt_cmpR (op_uEq hr.rm.units) (pe_go k__law_draw (hr.mono (by decide)) rfl F__law_draw.g F__law_draw.fn.kp F__law_draw.b pass0 (pa_cons (pv 0) (pa_cons pe_int pa_nil))) pe_int (nomark _)))))))))) (fun _ _ _ _ _ => (pv 3))) pa_nil)))))

abbrev s__law_chart_ : Stmt := topS 24
abbrev N__law_chart : List Str := ["town", "shut", "places", "rows", "goal", "row", "turn", "k", "one", "other", "there", "back", "begin", "end", "minutes", "here", "beyond"]
theorem sc__law_chart : FnScope N__law_chart ["town", "shut"] (defScope s__law_chart_) := ⟨rfl, rfl, rfl, by decide +kernel, rfl, by decide +kernel, by decide +kernel⟩
def t__law_chart_b1 (K : PySem.W.Frag) : TS :=
  tSeq (tAsg (tOp (uIx K) (tVar 5) (tIdx K (tVar 2) (tCons (tVar 12) (tNil)))) (gName 15)) (tSeq (tAsg (tOp (uIx K) (tVar 5) (tIdx K (tVar 2) (tCons (tVar 13) (tNil)))) (gName 16)) (tIfS (tAnd (tTest (tOp (uIn K true) (tVar 7) (tVar 1))) (tAnd (tTest (tOp rNotN (tVar 14) (tC .non))) (tTest (tOp rNotN (tVar 16) (tC .non))))) (tIfS (tOr (tTest (tOp rIsN (tVar 15) (tC .non))) (tTest (tOp (rI0 fun i j => .bl (decide (j < i))) (tVar 15) (tOp (uAdd K) (tVar 16) (tVar 14))))) (tAsg (tOp (uAdd K) (tVar 16) (tVar 14)) (gSub (tVar 5) (tIdx K (tVar 2) (tCons (tVar 12) (tNil))) uSetL)) (tNext)) (tNext)))
def t__law_chart_b2 (K : PySem.W.Frag) : TS :=
  tSeq (tAsg (tOp (uIx K) (tOp (uIx K) (tVar 0) (tC (.int 1))) (tVar 7)) (gTup K 4 (gCons (gName 8) (gCons (gName 9) (gCons (gName 10) (gCons (gName 11) (gNil))))))) (tFor (iU K (tTupU (tCons (tTupU (tCons (tVar 8) (tCons (tVar 9) (tCons (tVar 10) (tNil))))) (tCons (tTupU (tCons (tVar 9) (tCons (tVar 8) (tCons (tVar 11) (tNil))))) (tNil))))) (gTup K 3 (gCons (gName 12) (gCons (gName 13) (gCons (gName 14) (gNil))))) (t__law_chart_b1 K))
def t__law_chart_b3 (K : PySem.W.Frag) : TS :=
  tFor (iRng1 (tCons (tCB (uLen K) (tCons (tOp (uIx K) (tVar 0) (tC (.int 1))) (tNil))) (tNil))) (gName 7) (t__law_chart_b2 K)
def t__law_chart_r1 (K : PySem.W.Frag) : TS :=
  tDrop (tBM K "list" uAppend (tVar 3) (tCons (tCB (uTuple K) (tCons (tVar 5) (tNil))) (tNil)))
def t__law_chart_b4 (K : PySem.W.Frag) : TS :=
  tSeq (tAsg (tOp uMul (tLstU (tCons (tC .non) (tNil))) (tCB (uLen K) (tCons (tVar 2) (tNil)))) (gName 5)) (tSeq (tAsg (tC (.int 0)) (gSub (tVar 5) (tVar 4) uSetL)) (tSeq (tFor (iRng1 (tCons (tCB (uLen K) (tCons (tVar 2) (tNil))) (tNil))) (gName 6) (t__law_chart_b3 K)) (t__law_chart_r1 K)))
def t__law_chart_r2 (K : PySem.W.Frag) : TS :=
  tRet (tCB (uTuple K) (tCons (tVar 3) (tNil)))
def t__law_chart (K : PySem.W.Frag) : TS :=
  tSeq (tAsg (tOp (uIx K) (tVar 0) (tC (.int 0))) (gName 2)) (tSeq (tAsg (tLstU (tNil)) (gName 3)) (tSeq (tFor (iRng1 (tCons (tCB (uLen K) (tCons (tVar 2) (tNil))) (tNil))) (gName 4) (t__law_chart_b4 K)) (t__law_chart_r2 K)))
theorem dv__law_chart {P : Program} {w : World} {K : PySem.W.Frag} {mg : Str → Option Value} {b : Heap} {a : Addr} {d : FuncData} {sp : Sp} (F : Fn K mg "_law_chart" s__law_chart_ a d ["town", "shut"])
    (n_range : mg "range" = none)
    (n_len : mg "len" = none)
    (n_tuple : mg "tuple" = none)
    (len : ∀ vs H Q E, sp vs H Q E → vs.length = 2)
    (rd : ∀ vs H Q E, sp vs H Q E → run (t__law_chart K) (start N__law_chart vs) H Q) : Keeps P w K mg b CX0 2 a d ["town", "shut"] sp := by
  refine keeps0 F.fn sc__law_chart len fun cdv A o s H vs Q E hr h => ⟨t__law_chart K, ?_, rd vs H Q E h⟩
  unfold t__law_chart t__law_chart_r2 t__law_chart_b4 t__law_chart_r1 t__law_chart_b3 t__law_chart_b2 t__law_chart_b1
  exact (pss_cons (ps_set (i := 2) sc__law_chart.nd rfl (.inl rfl) (pe_ix ix_u (pv 0) pe_int (fun _ _ => rfl)))
  (pss_cons (ps_set (i := 3) sc__law_chart.nd rfl (.inl rfl) (pe_lstU pa_nil))
  (pss_cons (ps_for PassesOwn.never rfl (pi_range1 (by rfl) n_range (pa_cons (pe_callB call_uLen (by rfl) n_len (by decide +kernel) (pa_cons (pv 2) pa_nil)) pa_nil)) (pg_name (i := 4) sc__law_chart.nd rfl (.inl rfl)) (pss_cons (ps_set (i := 5) sc__law_chart.nd rfl (.inl rfl) (pe_op op_uMul (pe_lstU (pa_cons pe_non pa_nil)) (pe_callB call_uLen (by rfl) n_len (by decide +kernel) (pa_cons (pv 2) pa_nil))))
  (pss_cons (ps_asg pe_int (pg_sub (pv 5) (pv 4) set_u))
  (pss_cons (ps_for PassesOwn.never rfl (pi_range1 (by rfl) n_range (pa_cons (pe_callB call_uLen (by rfl) n_len (by decide +kernel) (pa_cons (pv 2) pa_nil)) pa_nil)) (pg_name (i := 6) sc__law_chart.nd rfl (.inl rfl)) (pss_one (ps_for PassesOwn.never rfl (pi_range1 (by rfl) n_range (pa_cons (pe_callB call_uLen (by rfl) n_len (by decide +kernel) (pa_cons (pe_ix ix_u (pv 0) pe_int (fun _ _ => rfl)) pa_nil)) pa_nil)) (pg_name (i := 7) sc__law_chart.nd rfl (.inl rfl)) (pss_cons (ps_asg (pe_ix ix_u (pe_ix ix_u (pv 0) pe_int (fun _ _ => rfl)) (pv 7) (fun _ _ => rfl)) (pg_tup rfl (pgs_cons (pg_name (i := 8) sc__law_chart.nd rfl (.inl rfl)) (pgs_cons (pg_name (i := 9) sc__law_chart.nd rfl (.inl rfl)) (pgs_cons (pg_name (i := 10) sc__law_chart.nd rfl (.inl rfl)) (pgs_cons (pg_name (i := 11) sc__law_chart.nd rfl (.inl rfl)) pgs_nil))))))
  (pss_one (ps_for PassesOwn.never rfl (pi_u (pe_tupU (pa_cons (pe_tupU (pa_cons (pv 8) (pa_cons (pv 9) (pa_cons (pv 10) pa_nil)))) (pa_cons (pe_tupU (pa_cons (pv 9) (pa_cons (pv 8) (pa_cons (pv 11) pa_nil)))) pa_nil)))) (pg_tup rfl (pgs_cons (pg_name (i := 12) sc__law_chart.nd rfl (.inl rfl)) (pgs_cons (pg_name (i := 13) sc__law_chart.nd rfl (.inl rfl)) (pgs_cons (pg_name (i := 14) sc__law_chart.nd rfl (.inl rfl)) pgs_nil)))) (pss_cons (ps_set (i := 15) sc__law_chart.nd rfl (.inl rfl) (pe_ix ix_u (pv 5) (pe_idx (pv 2) (pa_cons (pv 12) pa_nil)) (fun _ _ => rfl)))
  (pss_cons (ps_set (i := 16) sc__law_chart.nd rfl (.inl rfl) (pe_ix ix_u (pv 5) (pe_idx (pv 2) (pa_cons (pv 13) pa_nil)) (fun _ _ => rfl)))
  (pss_one (ps_if (PW.pt (pw_and (pt_cmpR op_uNotIn (pv 7) (pv 1) rfl) (pw_and (pt_cmpR op_notN (pv 14) pe_non (nomark _)) (pw_and1 (pt_cmpR op_notN (pv 16) pe_non (nomark _)))))) (pss_one (ps_if (PW.pt (pw_or (pt_cmpR op_isN (pv 15) pe_non (nomark _)) (pw_or1 (pt_cmpR op_gt (pv 15) (pe_op op_uAdd (pv 16) (pv 14)) (nomark _))))) (pss_one (ps_asg (pe_op op_uAdd (pv 16) (pv 14)) (pg_sub (pv 5) (pe_idx (pv 2) (pa_cons (pv 12) pa_nil)) set_u))) pss_nil)) pss_nil))))))))))
  (pss_one (ps_expr (pe_bm PySem.F.plainAttrs_list PySem.F.slot_list_append PySem.F.type_list_append mt_uAppend (pv 3) (pa_cons (pe_callTy call_uTuple (by rfl) n_tuple (by decide +kernel) (pa_cons (pv 5) pa_nil)) pa_nil))))))))
  (pss_one (ps_ret (pe_callTy call_uTuple (by rfl) n_tuple (by decide +kernel) (pa_cons (pv 3) pa_nil)))))))

abbrev s__law_near_ : Stmt := topS 25
abbrev N__law_near : List Str := ["town", "chart", "place", "one", "found", "goal"]
theorem sc__law_near : FnScope N__law_near ["town", "chart", "place"] (defScope s__law_near_) := ⟨rfl, rfl, rfl, by decide +kernel, rfl, by decide +kernel, by decide +kernel⟩
def t__law_near_b1 (K : PySem.W.Frag) : TS :=
  tIfS (tAnd (tTest (tOp rNotN (tOp (uIx K) (tOp (uIx K) (tVar 1) (tVar 5)) (tVar 3)) (tC .non))) (tTest (tOp (rI0 fun i j => .bl (decide (i ≤ j))) (tOp (uIx K) (tOp (uIx K) (tVar 1) (tVar 5)) (tVar 3)) (tOp (uIx K) (tVar 0) (tC (.int 3)))))) (tDrop (tBM K "list" uAppend (tVar 4) (tCons (tOp (uIx K) (tOp (uIx K) (tVar 0) (tC (.int 0))) (tVar 5)) (tNil)))) (tNext)
def t__law_near_r1 (K : PySem.W.Frag) : TS :=
  tRet (tVar 4)
def t__law_near (K : PySem.W.Frag) : TS :=
  tSeq (tAsg (tIdx K (tOp (uIx K) (tVar 0) (tC (.int 0))) (tCons (tVar 2) (tNil))) (gName 3)) (tSeq (tAsg (tLstU (tNil)) (gName 4)) (tSeq (tFor (iRng1 (tCons (tCB (uLen K) (tCons (tOp (uIx K) (tVar 0) (tC (.int 0))) (tNil))) (tNil))) (gName 5) (t__law_near_b1 K)) (t__law_near_r1 K)))
theorem dv__law_near {P : Program} {w : World} {K : PySem.W.Frag} {mg : Str → Option Value} {b : Heap} {a : Addr} {d : FuncData} {sp : Sp} (F : Fn K mg "_law_near" s__law_near_ a d ["town", "chart", "place"])
    (n_range : mg "range" = none)
    (n_len : mg "len" = none)
    (len : ∀ vs H Q E, sp vs H Q E → vs.length = 3)
    (rd : ∀ vs H Q E, sp vs H Q E → run (t__law_near K) (start N__law_near vs) H Q) : Keeps P w K mg b CX0 2 a d ["town", "chart", "place"] sp := by
  refine keeps0 F.fn sc__law_near len fun cdv A o s H vs Q E hr h => ⟨t__law_near K, ?_, rd vs H Q E h⟩
  unfold t__law_near t__law_near_r1 t__law_near_b1
  exact (pss_cons (ps_set (i := 3) sc__law_near.nd rfl (.inl rfl) (pe_idx (pe_ix ix_u (pv 0) pe_int (fun _ _ => rfl)) (pa_cons (pv 2) pa_nil)))
  (pss_cons (ps_set (i := 4) sc__law_near.nd rfl (.inl rfl) (pe_lstU pa_nil))
  (pss_cons (ps_for PassesOwn.never rfl (pi_range1 (by rfl) n_range (pa_cons (pe_callB call_uLen (by rfl) n_len (by decide +kernel) (pa_cons (pe_ix ix_u (pv 0) pe_int (fun _ _ => rfl)) pa_nil)) pa_nil)) (pg_name (i := 5) sc__law_near.nd rfl (.inl rfl)) (pss_one (ps_if (PW.pt (pw_and (pt_cmpR op_notN (pe_ix ix_u (pe_ix ix_u (pv 1) (pv 5) (fun _ _ => rfl)) (pv 3) (fun _ _ => rfl)) pe_non (nomark _)) (pw_and1 (pt_cmpR op_le (pe_ix ix_u (pe_ix ix_u (pv 1) (pv 5) (fun _ _ => rfl)) (pv 3) (fun _ _ => rfl)) (pe_ix ix_u (pv 0) pe_int (fun _ _ => rfl)) (nomark _))))) (pss_one (ps_expr (pe_bm PySem.F.plainAttrs_list PySem.F.slot_list_append PySem.F.type_list_append mt_uAppend (pv 4) (pa_cons (pe_ix ix_u (pe_ix ix_u (pv 0) pe_int (fun _ _ => rfl)) (pv 5) (fun _ _ => rfl)) pa_nil)))) pss_nil)))
  (pss_one (ps_ret (pv 4))))))

abbrev s__law_stage_ : Stmt := topS 26
abbrev N__law_stage : List Str := ["town", "chart", "near", "gone", "place", "stand"]
theorem sc__law_stage : FnScope N__law_stage ["town", "chart"] (defScope s__law_stage_) := ⟨rfl, rfl, rfl, by decide +kernel, rfl, by decide +kernel, by decide +kernel⟩
def t__law_stage (K : PySem.W.Frag) (s__law_near : Sp) : TS :=
  tSeq (tAsg (tCB (uDictP K) (tCons (tLc (iU K (tOp (uIx K) (tVar 0) (tC (.int 0)))) (gName 4) (tYes) (tTupU (tCons (tVar 4) (tCons (tGo s__law_near E0 (tCons (tVar 0) (tCons (tVar 1) (tCons (tVar 4) (tNil))))) (tNil)))) [4]) (tNil))) (gName 2)) (tSeq (tAsg (tLc (iU K (tOp (uIx K) (tVar 0) (tC (.int 0)))) (gName 4) (tNot (tTru K (tCB (rAny K) (tCons (tLc (iU K (tOp (uIx K) (tVar 0) (tC (.int 2)))) (gName 5) (tYes) (tOp (uIn K false) (tVar 4) (tDGet (tVar 2) (tVar 5))) [5]) (tNil))))) (tVar 4) [4]) (gName 3)) (tRet (tDisp ((tC (.str "places"), tOp (uIx K) (tVar 0) (tC (.int 0))) :: ((tC (.str "stands"), tOp (uIx K) (tVar 0) (tC (.int 2))) :: ((tC (.str "near"), tVar 2) :: ((tC (.str "gone"), tVar 3) :: [])))))))
theorem dv__law_stage {P : Program} {w : World} {K : PySem.W.Frag} {mg : Str → Option Value} {b : Heap} {a : Addr} {d : FuncData} {sp : Sp} (F : Fn K mg "_law_stage" s__law_stage_ a d ["town", "chart"])
    (n_dict : mg "dict" = none)
    {a__law_near : Addr} {d__law_near : FuncData} {s__law_near : Sp} (F__law_near : Fn K mg "_law_near" s__law_near_ a__law_near d__law_near ["town", "chart", "place"]) (k__law_near : Keeps P w K mg b CX0 2 a__law_near d__law_near ["town", "chart", "place"] s__law_near)
    (n_any : mg "any" = none)
    (len : ∀ vs H Q E, sp vs H Q E → vs.length = 2)
    (rd : ∀ vs H Q E, sp vs H Q E → run (t__law_stage K s__law_near) (start N__law_stage vs) H Q) : Keeps P w K mg b CX0 3 a d ["town", "chart"] sp := by
  refine keeps0 F.fn sc__law_stage len fun cdv A o s H vs Q E hr h => ⟨t__law_stage K s__law_near, ?_, rd vs H Q E h⟩
  unfold t__law_stage 
  exact (pss_cons (ps_set (i := 2) sc__law_stage.nd rfl (.inr rfl) (pe_callTy (call_uDictP rfl) (by rfl) n_dict (by decide +kernel) (pa_cons (pe_lc (own := [("place", 4)]) rfl sc__law_stage.nd (pi_u (pe_ix ix_u (pv 0) pe_int (fun _ _ => rfl))) (blkOk_by (own := [("place", 4)]) (N := N__law_stage) (sc := defScope s__law_stage_) (by decide +kernel)) (fun _ _ _ _ _ => (pg_name (i := 4) sc__law_stage.nd rfl (.inl rfl))) (fun _ _ _ _ _ => pts_nil) (fun _ _ _ _ _ => (pe_tupU (pa_cons (pv 4) (pa_cons (pe_go k__law_near (hr.mono (by decide)) rfl F__law_near.g F__law_near.fn.kp F__law_near.b pass0 (pa_cons (pv 0) (pa_cons (pv 1) (pa_cons (pv 4) pa_nil)))) pa_nil))))) pa_nil)))
  (pss_cons (ps_setLc (i := 3) (own := [("place", 4)]) rfl sc__law_stage.nd rfl rfl (sw_true rfl rfl rfl (by decide +kernel)) (pi_u (pe_ix ix_u (pv 0) pe_int (fun _ _ => rfl))) (blkOk_by (own := [("place", 4)]) (N := N__law_stage) (sc := defScope s__law_stage_) (by decide +kernel)) (fun _ _ _ _ _ => (pg_name (i := 4) sc__law_stage.nd rfl (.inr rfl))) (fun _ _ _ _ _ => (pts_one (pt_not (pt_tru (pe_callB (cr_any rfl) (by rfl) n_any (by decide +kernel) (pa_cons (pe_lc (own := [("stand", 5)]) rfl sc__law_stage.nd (pi_u (pe_ix ix_u (pv 0) pe_int (fun _ _ => rfl))) (blkOk_in (own := [("stand", 5)]) (N := N__law_stage) (by decide +kernel)) (fun _ _ _ _ _ => (pg_name (i := 5) sc__law_stage.nd rfl (.inl rfl))) (fun _ _ _ _ _ => pts_nil) (fun _ _ _ _ _ => (pe_cmpR op_uIn (pv 4) (pe_dget (hu_of hr.rm) (pv 2) (pv 5) (fun _ _ => rfl)) rfl))) pa_nil)))))) (fun _ _ _ _ _ => (pv 4)))
  (pss_one (ps_ret (pe_disp (pps_cons pe_str (pe_ix ix_u (pv 0) pe_int (fun _ _ => rfl)) (pps_cons pe_str (pe_ix ix_u (pv 0) pe_int (fun _ _ => rfl)) (pps_cons pe_str (pv 2) (pps_cons pe_str (pv 3) pps_nil)))) (by rfl) (by rfl) (fun z => by cases z) (by decide))))))

abbrev s__law_left_ : Stmt := topS 27
abbrev N__law_left : List Str := ["stage", "posts", "found", "place", "post"]
theorem sc__law_left : FnScope N__law_left ["stage", "posts"] (defScope s__law_left_) := ⟨rfl, rfl, rfl, by decide +kernel, rfl, by decide +kernel, by decide +kernel⟩
def t__law_left_b1 (K : PySem.W.Frag) : TS :=
  tIfS (tAnd (tTest (tOp (uIn K true) (tVar 3) (tDGet (tVar 0) (tC (.str "gone"))))) (tNot (tTru K (tCB (rAny K) (tCons (tLc (iU K (tVar 1)) (gName 4) (tYes) (tOp (uIn K false) (tVar 3) (tDGet (tDGet (tVar 0) (tC (.str "near"))) (tVar 4))) [4]) (tNil)))))) (tDrop (tBM K "list" uAppend (tVar 2) (tCons (tVar 3) (tNil)))) (tNext)
def t__law_left_r1 (K : PySem.W.Frag) : TS :=
  tRet (tVar 2)
def t__law_left (K : PySem.W.Frag) : TS :=
  tSeq (tAsg (tLstU (tNil)) (gName 2)) (tSeq (tFor (iU K (tDGet (tVar 0) (tC (.str "places")))) (gName 3) (t__law_left_b1 K)) (t__law_left_r1 K))
theorem dv__law_left {P : Program} {w : World} {K : PySem.W.Frag} {mg : Str → Option Value} {b : Heap} {a : Addr} {d : FuncData} {sp : Sp} (F : Fn K mg "_law_left" s__law_left_ a d ["stage", "posts"])
    (n_any : mg "any" = none)
    (len : ∀ vs H Q E, sp vs H Q E → vs.length = 2)
    (rd : ∀ vs H Q E, sp vs H Q E → run (t__law_left K) (start N__law_left vs) H Q) : Keeps P w K mg b CX0 2 a d ["stage", "posts"] sp := by
  refine keeps0 F.fn sc__law_left len fun cdv A o s H vs Q E hr h => ⟨t__law_left K, ?_, rd vs H Q E h⟩
  unfold t__law_left t__law_left_r1 t__law_left_b1
  exact (pss_cons (ps_set (i := 2) sc__law_left.nd rfl (.inl rfl) (pe_lstU pa_nil))
  (pss_cons (ps_for PassesOwn.never rfl (pi_u (pe_dget (hu_of hr.rm) (pv 0) pe_str (fun _ _ => rfl))) (pg_name (i := 3) sc__law_left.nd rfl (.inr rfl)) (pss_one (ps_if (PW.pt (pw_and (pt_cmpR op_uNotIn (pv 3) (pe_dget (hu_of hr.rm) (pv 0) pe_str (fun _ _ => rfl)) rfl) (pw_and1 (pt_not (pt_tru (pe_callB (cr_any rfl) (by rfl) n_any (by decide +kernel) (pa_cons (pe_lc (own := [("post", 4)]) rfl sc__law_left.nd (pi_u (pv 1)) (blkOk_by (own := [("post", 4)]) (N := N__law_left) (sc := defScope s__law_left_) (by decide +kernel)) (fun _ _ _ _ _ => (pg_name (i := 4) sc__law_left.nd rfl (.inl rfl))) (fun _ _ _ _ _ => pts_nil) (fun _ _ _ _ _ => (pe_cmpR op_uIn (pv 3) (pe_dget (hu_of hr.rm) (pe_dget (hu_of hr.rm) (pv 0) pe_str (fun _ _ => rfl)) (pv 4) (fun _ _ => rfl)) rfl))) pa_nil))))))) (pss_one (ps_expr (pe_bm PySem.F.plainAttrs_list PySem.F.slot_list_append PySem.F.type_list_append mt_uAppend (pv 2) (pa_cons (pv 3) pa_nil)))) pss_nil)))
  (pss_one (ps_ret (pv 2)))))

abbrev s__law_sets_ : Stmt := topS 28
abbrev N__law_sets : List Str := ["many", "size", "found", "turn", "longer", "some", "k"]
theorem sc__law_sets : FnScope N__law_sets ["many", "size"] (defScope s__law_sets_) := ⟨rfl, rfl, rfl, by decide +kernel, rfl, by decide +kernel, by decide +kernel⟩
def t__law_sets_b1 (K : PySem.W.Frag) : TS :=
  tDrop (tBM K "list" uExtend (tVar 4) (tCons (tLc (iRng1 (tCons (tVar 0) (tNil))) (gName 6) (tOr (tTest (tOp (uEq K false) (tVar 5) (tLstU (tNil)))) (tTest (tOp (rI0 fun i j => .bl (decide (j < i))) (tVar 6) (tOp (uIx K) (tVar 5) (tUn (rU fun i => .int (-i)) (tC (.int 1))))))) (tOp (uAdd K) (tVar 5) (tLstU (tCons (tVar 6) (tNil)))) [6]) (tNil)))
def t__law_sets_r1 (K : PySem.W.Frag) : TS :=
  tAsg (tVar 4) (gName 2)
def t__law_sets_b2 (K : PySem.W.Frag) : TS :=
  tSeq (tAsg (tLstU (tNil)) (gName 4)) (tSeq (tFor (iU K (tVar 2)) (gName 5) (t__law_sets_b1 K)) (t__law_sets_r1 K))
def t__law_sets_r2 (K : PySem.W.Frag) : TS :=
  tRet (tVar 2)
def t__law_sets (K : PySem.W.Frag) : TS :=
  tSeq (tAsg (tLstU (tCons (tLstU (tNil)) (tNil))) (gName 2)) (tSeq (tFor (iRng1 (tCons (tVar 1) (tNil))) (gName 3) (t__law_sets_b2 K)) (t__law_sets_r2 K))
theorem dv__law_sets {P : Program} {w : World} {K : PySem.W.Frag} {mg : Str → Option Value} {b : Heap} {a : Addr} {d : FuncData} {sp : Sp} (F : Fn K mg "_law_sets" s__law_sets_ a d ["many", "size"])
    (n_range : mg "range" = none)
    (len : ∀ vs H Q E, sp vs H Q E → vs.length = 2)
    (rd : ∀ vs H Q E, sp vs H Q E → run (t__law_sets K) (start N__law_sets vs) H Q) : Keeps P w K mg b CX0 2 a d ["many", "size"] sp := by
  refine keeps0 F.fn sc__law_sets len fun cdv A o s H vs Q E hr h => ⟨t__law_sets K, ?_, rd vs H Q E h⟩
  unfold t__law_sets t__law_sets_r2 t__law_sets_b2 t__law_sets_r1 t__law_sets_b1
  exact (pss_cons (ps_set (i := 2) sc__law_sets.nd rfl (.inl rfl) (pe_lstU (pa_cons (pe_lstU pa_nil) pa_nil)))
  (pss_cons (ps_for PassesOwn.never rfl (pi_range1 (by rfl) n_range (pa_cons (pv 1) pa_nil)) (pg_name (i := 3) sc__law_sets.nd rfl (.inl rfl)) (pss_cons (ps_set (i := 4) sc__law_sets.nd rfl (.inl rfl) (pe_lstU pa_nil))
  (pss_cons (ps_for PassesOwn.never rfl (pi_u (pv 2)) (pg_name (i := 5) sc__law_sets.nd rfl (.inr rfl)) (pss_one (ps_expr (pe_bm PySem.F.plainAttrs_list PySem.F.slot_list_extend PySem.F.type_list_extend mt_uExtend (pv 4) (pa_cons (pe_lc (own := [("k", 6)]) rfl sc__law_sets.nd (pi_range1 (by rfl) n_range (pa_cons (pv 0) pa_nil)) (blkOk_by (own := [("k", 6)]) (N := N__law_sets) (sc := defScope s__law_sets_) (by decide +kernel)) (fun _ _ _ _ _ => (pg_name (i := 6) sc__law_sets.nd rfl (.inl rfl))) (fun _ _ _ _ _ => (pts_one (PW.pt (pw_or (pt_cmpR (op_uEq hr.rm.units) (pv 5) (pe_lstU pa_nil) (nomark _)) (pw_or1 (pt_cmpR op_gt (pv 6) (pe_ix ix_u (pv 5) (pe_un un_neg pe_int) (fun _ _ => rfl)) (nomark _))))))) (fun _ _ _ _ _ => (pe_op op_uAdd (pv 5) (pe_lstU (pa_cons (pv 6) pa_nil))))) pa_nil)))))
  (pss_one (ps_set (i := 2) sc__law_sets.nd rfl (.inl rfl) (pv 4))))))
  (pss_one (ps_ret (pv 2)))))

abbrev s__law_fewest_ : Stmt := topS 29
abbrev N__law_fewest : List Str := ["stage", "stands", "size", "some", "k"]
theorem sc__law_fewest : FnScope N__law_fewest ["stage"] (defScope s__law_fewest_) := ⟨rfl, rfl, rfl, by decide +kernel, rfl, by decide +kernel, by decide +kernel⟩
def t__law_fewest_b1 (K : PySem.W.Frag) (s__law_sets : Sp) (s__law_left : Sp) : TS :=
  tIfS (tTest (tOp (uEq K false) (tGo s__law_left E0 (tCons (tVar 0) (tCons (tLc (iU K (tVar 3)) (gName 4) (tYes) (tOp (uIx K) (tVar 1) (tVar 4)) [4]) (tNil)))) (tLstU (tNil)))) (tRet (tCB (uTuple K) (tCons (tLc (iU K (tVar 3)) (gName 4) (tYes) (tOp (uIx K) (tVar 1) (tVar 4)) [4]) (tNil)))) (tNext)
def t__law_fewest_b2 (K : PySem.W.Frag) (s__law_sets : Sp) (s__law_left : Sp) : TS :=
  tFor (iU K (tGo s__law_sets E0 (tCons (tCB (uLen K) (tCons (tVar 1) (tNil))) (tCons (tVar 2) (tNil))))) (gName 3) (t__law_fewest_b1 K s__law_sets s__law_left)
def t__law_fewest_r1 (K : PySem.W.Frag) (s__law_sets : Sp) (s__law_left : Sp) : TS :=
  tRet (tC .non)
def t__law_fewest (K : PySem.W.Frag) (s__law_sets : Sp) (s__law_left : Sp) : TS :=
  tSeq (tAsg (tDGet (tVar 0) (tC (.str "stands"))) (gName 1)) (tSeq (tFor (iRng2 (tCons (tC (.int 1)) (tCons (tOp (uAdd K) (tCB (uLen K) (tCons (tVar 1) (tNil))) (tC (.int 1))) (tNil)))) (gName 2) (t__law_fewest_b2 K s__law_sets s__law_left)) (t__law_fewest_r1 K s__law_sets s__law_left))
theorem dv__law_fewest {P : Program} {w : World} {K : PySem.W.Frag} {mg : Str → Option Value} {b : Heap} {a : Addr} {d : FuncData} {sp : Sp} (F : Fn K mg "_law_fewest" s__law_fewest_ a d ["stage"])
    (n_range : mg "range" = none)
    (n_len : mg "len" = none)
    {a__law_sets : Addr} {d__law_sets : FuncData} {s__law_sets : Sp} (F__law_sets : Fn K mg "_law_sets" s__law_sets_ a__law_sets d__law_sets ["many", "size"]) (k__law_sets : Keeps P w K mg b CX0 2 a__law_sets d__law_sets ["many", "size"] s__law_sets)
    {a__law_left : Addr} {d__law_left : FuncData} {s__law_left : Sp} (F__law_left : Fn K mg "_law_left" s__law_left_ a__law_left d__law_left ["stage", "posts"]) (k__law_left : Keeps P w K mg b CX0 2 a__law_left d__law_left ["stage", "posts"] s__law_left)
    (n_tuple : mg "tuple" = none)
    (len : ∀ vs H Q E, sp vs H Q E → vs.length = 1)
    (rd : ∀ vs H Q E, sp vs H Q E → run (t__law_fewest K s__law_sets s__law_left) (start N__law_fewest vs) H Q) : Keeps P w K mg b CX0 3 a d ["stage"] sp := by
  refine keeps0 F.fn sc__law_fewest len fun cdv A o s H vs Q E hr h => ⟨t__law_fewest K s__law_sets s__law_left, ?_, rd vs H Q E h⟩
  unfold t__law_fewest t__law_fewest_r1 t__law_fewest_b2 t__law_fewest_b1
  exact (pss_cons (ps_set (i := 1) sc__law_fewest.nd rfl (.inr rfl) (pe_dget (hu_of hr.rm) (pv 0) pe_str (fun _ _ => rfl)))
  (pss_cons (ps_for PassesOwn.never rfl (pi_range2 (by rfl) n_range (pa_cons pe_int (pa_cons (pe_op op_uAdd (pe_callB call_uLen (by rfl) n_len (by decide +kernel) (pa_cons (pv 1) pa_nil)) pe_int) pa_nil))) (pg_name (i := 2) sc__law_fewest.nd rfl (.inl rfl)) (pss_one (ps_for PassesOwn.never rfl (pi_u (pe_go k__law_sets (hr.mono (by decide)) rfl F__law_sets.g F__law_sets.fn.kp F__law_sets.b pass0 (pa_cons (pe_callB call_uLen (by rfl) n_len (by decide +kernel) (pa_cons (pv 1) pa_nil)) (pa_cons (pv 2) pa_nil)))) (pg_name (i := 3) sc__law_fewest.nd rfl (.inl rfl)) (pss_one (ps_if (pt_cmpR (op_uEq hr.rm.units) (pe_go k__law_left (hr.mono (by decide)) rfl F__law_left.g F__law_left.fn.kp F__law_left.b pass0 (pa_cons (pv 0) (pa_cons (pe_lc (own := [("k", 4)]) rfl sc__law_fewest.nd (pi_u (pv 3)) (blkOk_by (own := [("k", 4)]) (N := N__law_fewest) (sc := defScope s__law_fewest_) (by decide +kernel)) (fun _ _ _ _ _ => (pg_name (i := 4) sc__law_fewest.nd rfl (.inl rfl))) (fun _ _ _ _ _ => pts_nil) (fun _ _ _ _ _ => (pe_ix ix_u (pv 1) (pv 4) (fun _ _ => rfl)))) pa_nil))) (pe_lstU pa_nil) (nomark _)) (pss_one (ps_ret (pe_callTy call_uTuple (by rfl) n_tuple (by decide +kernel) (pa_cons (pe_lc (own := [("k", 4)]) rfl sc__law_fewest.nd (pi_u (pv 3)) (blkOk_by (own := [("k", 4)]) (N := N__law_fewest) (sc := defScope s__law_fewest_) (by decide +kernel)) (fun _ _ _ _ _ => (pg_name (i := 4) sc__law_fewest.nd rfl (.inl rfl))) (fun _ _ _ _ _ => pts_nil) (fun _ _ _ _ _ => (pe_ix ix_u (pv 1) (pv 4) (fun _ _ => rfl)))) pa_nil)))) pss_nil)))))
  (pss_one (ps_ret pe_non))))

abbrev s__law_covering_ : Stmt := topS 30
abbrev N__law_covering : List Str := ["held", "stage", "fewest", "stands", "some", "size", "numbers", "k"]
theorem sc__law_covering : FnScope N__law_covering ["held", "stage"] (defScope s__law_covering_) := ⟨rfl, rfl, rfl, by decide +kernel, rfl, by decide +kernel, by decide +kernel⟩
def t__law_covering_b1 (K : PySem.W.Frag) (s__law_fewest : Sp) (s__law_sets : Sp) (s__law_left : Sp) (s__law_draw : Sp) : TS :=
  tIfS (tTest (tOp (uEq K false) (tGo s__law_left E0 (tCons (tVar 1) (tCons (tLc (iU K (tVar 6)) (gName 7) (tYes) (tOp (uIx K) (tVar 3) (tVar 7)) [7]) (tNil)))) (tLstU (tNil)))) (tDrop (tBM K "list" uAppend (tVar 4) (tCons (tCB (uTuple K) (tCons (tLc (iU K (tVar 6)) (gName 7) (tYes) (tOp (uIx K) (tVar 3) (tVar 7)) [7]) (tNil))) (tNil)))) (tNext)
def t__law_covering_b2 (K : PySem.W.Frag) (s__law_fewest : Sp) (s__law_sets : Sp) (s__law_left : Sp) (s__law_draw : Sp) : TS :=
  tFor (iU K (tGo s__law_sets E0 (tCons (tCB (uLen K) (tCons (tVar 3) (tNil))) (tCons (tVar 5) (tNil))))) (gName 6) (t__law_covering_b1 K s__law_fewest s__law_sets s__law_left s__law_draw)
def t__law_covering_r1 (K : PySem.W.Frag) (s__law_fewest : Sp) (s__law_sets : Sp) (s__law_left : Sp) (s__law_draw : Sp) : TS :=
  tRet (tOp (uIx K) (tLstU (tCons (tVar 2) (tCons (tOp (uIx K) (tVar 4) (tGo s__law_draw E0 (tCons (tVar 0) (tCons (tCB (uLen K) (tCons (tVar 4) (tNil))) (tNil))))) (tNil)))) (tGo s__law_draw E0 (tCons (tVar 0) (tCons (tC (.int 2)) (tNil)))))
def t__law_covering (K : PySem.W.Frag) (s__law_fewest : Sp) (s__law_sets : Sp) (s__law_left : Sp) (s__law_draw : Sp) : TS :=
  tSeq (tAsg (tGo s__law_fewest E0 (tCons (tVar 1) (tNil))) (gName 2)) (tSeq (tAsg (tDGet (tVar 1) (tC (.str "stands"))) (gName 3)) (tSeq (tAsg (tLstU (tNil)) (gName 4)) (tSeq (tFor (iRng2 (tCons (tCB (uLen K) (tCons (tVar 2) (tNil))) (tCons (tOp (uAdd K) (tCB (uLen K) (tCons (tVar 3) (tNil))) (tC (.int 1))) (tNil)))) (gName 5) (t__law_covering_b2 K s__law_fewest s__law_sets s__law_left s__law_draw)) (t__law_covering_r1 K s__law_fewest s__law_sets s__law_left s__law_draw))))
theorem dv__law_covering {P : Program} {w : World} {K : PySem.W.Frag} {mg : Str → Option Value} {b : Heap} {a : Addr} {d : FuncData} {sp : Sp} (F : Fn K mg "_law_covering" s__law_covering_ a d ["held", "stage"])
    {a__law_fewest : Addr} {d__law_fewest : FuncData} {s__law_fewest : Sp} (F__law_fewest : Fn K mg "_law_fewest" s__law_fewest_ a__law_fewest d__law_fewest ["stage"]) (k__law_fewest : Keeps P w K mg b CX0 3 a__law_fewest d__law_fewest ["stage"] s__law_fewest)
    (n_range : mg "range" = none)
    (n_len : mg "len" = none)
    {a__law_sets : Addr} {d__law_sets : FuncData} {s__law_sets : Sp} (F__law_sets : Fn K mg "_law_sets" s__law_sets_ a__law_sets d__law_sets ["many", "size"]) (k__law_sets : Keeps P w K mg b CX0 2 a__law_sets d__law_sets ["many", "size"] s__law_sets)
    {a__law_left : Addr} {d__law_left : FuncData} {s__law_left : Sp} (F__law_left : Fn K mg "_law_left" s__law_left_ a__law_left d__law_left ["stage", "posts"]) (k__law_left : Keeps P w K mg b CX0 2 a__law_left d__law_left ["stage", "posts"] s__law_left)
    (n_tuple : mg "tuple" = none)
    {a__law_draw : Addr} {d__law_draw : FuncData} {s__law_draw : Sp} (F__law_draw : Fn K mg "_law_draw" s__law_draw_ a__law_draw d__law_draw ["held", "many"]) (k__law_draw : Keeps P w K mg b CX0 2 a__law_draw d__law_draw ["held", "many"] s__law_draw)
    (len : ∀ vs H Q E, sp vs H Q E → vs.length = 2)
    (rd : ∀ vs H Q E, sp vs H Q E → run (t__law_covering K s__law_fewest s__law_sets s__law_left s__law_draw) (start N__law_covering vs) H Q) : Keeps P w K mg b CX0 4 a d ["held", "stage"] sp := by
  refine keeps0 F.fn sc__law_covering len fun cdv A o s H vs Q E hr h => ⟨t__law_covering K s__law_fewest s__law_sets s__law_left s__law_draw, ?_, rd vs H Q E h⟩
  unfold t__law_covering t__law_covering_r1 t__law_covering_b2 t__law_covering_b1
  exact (pss_cons (ps_set (i := 2) sc__law_covering.nd rfl (.inl rfl) (pe_go k__law_fewest (hr.mono (by decide)) rfl F__law_fewest.g F__law_fewest.fn.kp F__law_fewest.b pass0 (pa_cons (pv 1) pa_nil)))
  (pss_cons (ps_set (i := 3) sc__law_covering.nd rfl (.inr rfl) (pe_dget (hu_of hr.rm) (pv 1) pe_str (fun _ _ => rfl)))
  (pss_cons (ps_set (i := 4) sc__law_covering.nd rfl (.inl rfl) (pe_lstU pa_nil))
  (pss_cons (ps_for PassesOwn.never rfl (pi_range2 (by rfl) n_range (pa_cons (pe_callB call_uLen (by rfl) n_len (by decide +kernel) (pa_cons (pv 2) pa_nil)) (pa_cons (pe_op op_uAdd (pe_callB call_uLen (by rfl) n_len (by decide +kernel) (pa_cons (pv 3) pa_nil)) pe_int) pa_nil))) (pg_name (i := 5) sc__law_covering.nd rfl (.inl rfl)) (pss_one (ps_for PassesOwn.never rfl (pi_u (pe_go k__law_sets (hr.mono (by decide)) rfl F__law_sets.g F__law_sets.fn.kp F__law_sets.b pass0 (pa_cons (pe_callB call_uLen (by rfl) n_len (by decide +kernel) (pa_cons (pv 3) pa_nil)) (pa_cons (pv 5) pa_nil)))) (pg_name (i := 6) sc__law_covering.nd rfl (.inl rfl)) (pss_one (ps_if (pt_cmpR (op_uEq hr.rm.units) (pe_go k__law_left (hr.mono (by decide)) rfl F__law_left.g F__law_left.fn.kp F__law_left.b pass0 (pa_cons (pv 1) (pa_cons (pe_lc (own := [("k", 7)]) rfl sc__law_covering.nd (pi_u (pv 6)) (blkOk_by (own := [("k", 7)]) (N := N__law_covering) (sc := defScope s__law_covering_) (by decide +kernel)) (fun _ _ _ _ _ => (pg_name (i := 7) sc__law_covering.nd rfl (.inl rfl))) (fun _ _ _ _ _ => pts_nil) (fun _ _ _ _ _ => (pe_ix ix_u (pv 3) (pv 7) (fun _ _ => rfl)))) pa_nil))) (pe_lstU pa_nil) (nomark _)) (pss_one (ps_expr (pe_bm PySem.F.plainAttrs_list PySem.F.slot_list_append PySem.F.type_list_append mt_uAppend (pv 4) (pa_cons (pe_callTy call_uTuple (by rfl) n_tuple (by decide +kernel) (pa_cons (pe_lc (own := [("k", 7)]) rfl sc__law_covering.nd (pi_u (pv 6)) (blkOk_by (own := [("k", 7)]) (N := N__law_covering) (sc := defScope s__law_covering_) (by decide +kernel)) (fun _ _ _ _ _ => (pg_name (i := 7) sc__law_covering.nd rfl (.inl rfl))) (fun _ _ _ _ _ => pts_nil) (fun _ _ _ _ _ => (pe_ix ix_u (pv 3) (pv 7) (fun _ _ => rfl)))) pa_nil)) pa_nil)))) pss_nil)))))
  (pss_one (ps_ret (pe_ix ix_u (pe_lstU (pa_cons (pv 2) (pa_cons (pe_ix ix_u (pv 4) (pe_go k__law_draw (hr.mono (by decide)) rfl F__law_draw.g F__law_draw.fn.kp F__law_draw.b pass0 (pa_cons (pv 0) (pa_cons (pe_callB call_uLen (by rfl) n_len (by decide +kernel) (pa_cons (pv 4) pa_nil)) pa_nil))) (fun _ _ => rfl)) pa_nil))) (pe_go k__law_draw (hr.mono (by decide)) rfl F__law_draw.g F__law_draw.fn.kp F__law_draw.b pass0 (pa_cons (pv 0) (pa_cons pe_int pa_nil))) (fun _ _ => rfl))))))))

abbrev s__law_is_node_ : Stmt := topS 31
abbrev N__law_is_node : List Str := ["thing", "word", "many"]
theorem sc__law_is_node : FnScope N__law_is_node ["thing", "word", "many"] (defScope s__law_is_node_) := ⟨rfl, rfl, rfl, by decide +kernel, rfl, by decide +kernel, by decide +kernel⟩
def t__law_is_node (K : PySem.W.Frag) : TS :=
  tRet (tAndT K (tCB (rIsi K) (tCons (tVar 0) (tCons (tC (.ty "tuple")) (tNil)))) (tAndT K (tOp (uEq K false) (tCB (uLen K) (tCons (tVar 0) (tNil))) (tVar 2)) (tAndT K (tCB (rIsi K) (tCons (tOp (uIx K) (tVar 0) (tC (.int 0))) (tCons (tC (.ty "str")) (tNil)))) (tOp (uEq K false) (tOp (uIx K) (tVar 0) (tC (.int 0))) (tVar 1)))))
theorem dv__law_is_node {P : Program} {w : World} {K : PySem.W.Frag} {mg : Str → Option Value} {b : Heap} {a : Addr} {d : FuncData} {sp : Sp} (F : Fn K mg "_law_is_node" s__law_is_node_ a d ["thing", "word", "many"])
    (n_isinstance : mg "isinstance" = none)
    (n_tuple : mg "tuple" = none)
    (n_len : mg "len" = none)
    (n_str : mg "str" = none)
    (len : ∀ vs H Q E, sp vs H Q E → vs.length = 3)
    (rd : ∀ vs H Q E, sp vs H Q E → run (t__law_is_node K) (start N__law_is_node vs) H Q) : Keeps P w K mg b CX0 2 a d ["thing", "word", "many"] sp := by
  refine keeps0 F.fn sc__law_is_node len fun cdv A o s H vs Q E hr h => ⟨t__law_is_node K, ?_, rd vs H Q E h⟩
  unfold t__law_is_node 
  exact (pss_one (ps_ret (pe_andT (pe_callB call_isi (by rfl) n_isinstance (by decide +kernel) (pa_cons (pv 0) (pa_cons (pe_bltn (v := .ty "tuple") (by rfl) n_tuple (by decide +kernel) rfl) pa_nil))) (pe_andT (pe_cmpR (op_uEq hr.rm.units) (pe_callB call_uLen (by rfl) n_len (by decide +kernel) (pa_cons (pv 0) pa_nil)) (pv 2) (nomark _)) (pe_andT (pe_callB call_isi (by rfl) n_isinstance (by decide +kernel) (pa_cons (pe_ix ix_u (pv 0) pe_int (fun _ _ => rfl)) (pa_cons (pe_bltn (v := .ty "str") (by rfl) n_str (by decide +kernel) rfl) pa_nil))) (pe_one (pe_cmpR (op_uEq hr.rm.units) (pe_ix ix_u (pv 0) pe_int (fun _ _ => rfl)) (pv 1) (nomark _))))))))

abbrev s__law_are_just_ : Stmt := topS 32
abbrev N__law_are_just : List Str := ["heads", "due", "one", "part"]
theorem sc__law_are_just : FnScope N__law_are_just ["heads", "due"] (defScope s__law_are_just_) := ⟨rfl, rfl, rfl, by decide +kernel, rfl, by decide +kernel, by decide +kernel⟩
def t__law_are_just_b1 (K : PySem.W.Frag) : TS :=
  tIfS (tOr (tNot (tTru K (tCB (rAll K) (tCons (tLc (iU K (tVar 2)) (gName 3) (tYes) (tCB (rIsi K) (tCons (tVar 3) (tCons (tC (.ty "str")) (tNil)))) [3]) (tNil))))) (tTest (tOp uNinH (tVar 2) (tVar 1)))) (tRet (tC (.bl false))) (tNext)
def t__law_are_just_r1 (K : PySem.W.Frag) : TS :=
  tRet (tAndT K (tOp (uEq K false) (tCB (uLen K) (tCons (tVar 0) (tNil))) (tCB (uLen K) (tCons (tVar 1) (tNil)))) (tOp (uEq K false) (tCB (uLen K) (tCons (tLc (iU K (tVar 1)) (gName 2) (tTest (tOp uNinH (tVar 2) (tVar 0))) (tVar 2) [2]) (tNil))) (tC (.int 0))))
def t__law_are_just (K : PySem.W.Frag) : TS :=
  tSeq (tFor (iU K (tVar 0)) (gName 2) (t__law_are_just_b1 K)) (t__law_are_just_r1 K)
theorem dv__law_are_just {P : Program} {w : World} {K : PySem.W.Frag} {mg : Str → Option Value} {b : Heap} {a : Addr} {d : FuncData} {sp : Sp} (F : Fn K mg "_law_are_just" s__law_are_just_ a d ["heads", "due"])
    (n_all : mg "all" = none)
    (n_isinstance : mg "isinstance" = none)
    (n_str : mg "str" = none)
    (n_len : mg "len" = none)
    (len : ∀ vs H Q E, sp vs H Q E → vs.length = 2)
    (rd : ∀ vs H Q E, sp vs H Q E → run (t__law_are_just K) (start N__law_are_just vs) H Q) : Keeps P w K mg b CX0 2 a d ["heads", "due"] sp := by
  refine keeps0 F.fn sc__law_are_just len fun cdv A o s H vs Q E hr h => ⟨t__law_are_just K, ?_, rd vs H Q E h⟩
  unfold t__law_are_just t__law_are_just_r1 t__law_are_just_b1
  exact (pss_cons (ps_for PassesOwn.never rfl (pi_u (pv 0)) (pg_name (i := 2) sc__law_are_just.nd rfl (.inl rfl)) (pss_one (ps_if (PW.pt (pw_or (pt_not (pt_tru (pe_callB (cr_all rfl) (by rfl) n_all (by decide +kernel) (pa_cons (pe_lc (own := [("part", 3)]) rfl sc__law_are_just.nd (pi_u (pv 2)) (blkOk_by (own := [("part", 3)]) (N := N__law_are_just) (sc := defScope s__law_are_just_) (by decide +kernel)) (fun _ _ _ _ _ => (pg_name (i := 3) sc__law_are_just.nd rfl (.inl rfl))) (fun _ _ _ _ _ => pts_nil) (fun _ _ _ _ _ => (pe_callB call_isi (by rfl) n_isinstance (by decide +kernel) (pa_cons (pv 3) (pa_cons (pe_bltn (v := .ty "str") (by rfl) n_str (by decide +kernel) rfl) pa_nil))))) pa_nil)))) (pw_or1 (pt_cmpR (op_notInH (un65 hr)) (pv 2) (pv 1) rfl)))) (pss_one (ps_ret pe_bl)) pss_nil)))
  (pss_one (ps_ret (pe_andT (pe_cmpR (op_uEq hr.rm.units) (pe_callB call_uLen (by rfl) n_len (by decide +kernel) (pa_cons (pv 0) pa_nil)) (pe_callB call_uLen (by rfl) n_len (by decide +kernel) (pa_cons (pv 1) pa_nil)) (nomark _)) (pe_one (pe_cmpR (op_uEq hr.rm.units) (pe_callB call_uLen (by rfl) n_len (by decide +kernel) (pa_cons (pe_lc (own := [("one", 2)]) rfl sc__law_are_just.nd (pi_u (pv 1)) (blkOk_by (own := [("one", 2)]) (N := N__law_are_just) (sc := defScope s__law_are_just_) (by decide +kernel)) (fun _ _ _ _ _ => (pg_name (i := 2) sc__law_are_just.nd rfl (.inl rfl))) (fun _ _ _ _ _ => (pts_one (pt_cmpR (op_notInH (un65 hr)) (pv 2) (pv 0) rfl))) (fun _ _ _ _ _ => (pv 2))) pa_nil)) pe_int (nomark _)))))))

abbrev s__law_shows_ : Stmt := topS 33
abbrev N__law_shows : List Str := ["stage", "posts", "tree", "taken", "left", "stands", "numbers", "due", "stand", "one"]
theorem sc__law_shows : FnScope N__law_shows ["stage", "posts", "tree", "taken"] (defScope s__law_shows_) := ⟨rfl, rfl, rfl, by decide +kernel, rfl, by decide +kernel, by decide +kernel⟩
def t__law_shows_r1 (K : PySem.W.Frag) (s__law_left : Sp) (s__law_is_node : Sp) (s__law_are_just : Sp) (s__law_shows : Sp) : TS :=
  tRet (tCB (rAll K) (tCons (tLc (iU K (tOp (uIx K) (tVar 2) (tC (.int 2)))) (gName 9) (tYes) (tGo s__law_shows E0 (tCons (tVar 0) (tCons (tVar 1) (tCons (tOp (uIx K) (tVar 9) (tC (.int 1))) (tCons (tOp (uAdd K) (tVar 3) (tLstU (tCons (tOp (uIx K) (tVar 9) (tC (.int 0))) (tNil)))) (tNil)))))) [9]) (tNil)))
def t__law_shows_r2 (K : PySem.W.Frag) (s__law_left : Sp) (s__law_is_node : Sp) (s__law_are_just : Sp) (s__law_shows : Sp) : TS :=
  tSeq (tAsg (tLc (iU K (tVar 5)) (gName 8) (tTest (tOp (uIn K false) (tOp (uIx K) (tVar 2) (tC (.int 1))) (tDGet (tDGet (tVar 0) (tC (.str "near"))) (tVar 8)))) (tTupU (tCons (tVar 8) (tNil))) [8]) (gName 7)) (tSeq (tIfS (tNot (tTru K (tGo s__law_are_just E0 (tCons (tLc (iU K (tOp (uIx K) (tVar 2) (tC (.int 2)))) (gName 9) (tYes) (tSl (uSl K) (tVar 9) (tNoPart) (tPart (tC (.int 1)))) [9]) (tCons (tVar 7) (tNil)))))) (tRet (tC (.bl false))) (tNext)) (t__law_shows_r1 K s__law_left s__law_is_node s__law_are_just s__law_shows))
def t__law_shows_r3 (K : PySem.W.Frag) (s__law_left : Sp) (s__law_is_node : Sp) (s__law_are_just : Sp) (s__law_shows : Sp) : TS :=
  tSeq (tIfS (tTest (tOp uNeE (tLc (iU K (tOp (uIx K) (tVar 2) (tC (.int 2)))) (gName 9) (tOr (tNot (tTru K (tCB (rIsi K) (tCons (tVar 9) (tCons (tC (.ty "tuple")) (tNil)))))) (tTest (tOp (uEq K true) (tCB (uLen K) (tCons (tVar 9) (tNil))) (tC (.int 2))))) (tVar 9) [9]) (tLstU (tNil)))) (tRet (tC (.bl false))) (tNext)) (t__law_shows_r2 K s__law_left s__law_is_node s__law_are_just s__law_shows)
def t__law_shows_r4 (K : PySem.W.Frag) (s__law_left : Sp) (s__law_is_node : Sp) (s__law_are_just : Sp) (s__law_shows : Sp) : TS :=
  tSeq (tIfS (tOr (tTest (tOp (rI0 fun i j => .bl (decide (j ≤ i))) (tCB (uLen K) (tCons (tVar 3) (tNil))) (tCB (uLen K) (tCons (tVar 1) (tNil))))) (tNot (tTru K (tCB (rIsi K) (tCons (tOp (uIx K) (tVar 2) (tC (.int 2))) (tCons (tC (.ty "tuple")) (tNil))))))) (tRet (tC (.bl false))) (tNext)) (t__law_shows_r3 K s__law_left s__law_is_node s__law_are_just s__law_shows)
def t__law_shows_r5 (K : PySem.W.Frag) (s__law_left : Sp) (s__law_is_node : Sp) (s__law_are_just : Sp) (s__law_shows : Sp) : TS :=
  tSeq (tIfS (tTest (tOp (uEq K false) (tOp (uIx K) (tVar 2) (tC (.int 0))) (tC (.str "bare")))) (tRet (tOp (uEq K false) (tCB (uLen K) (tCons (tVar 3) (tNil))) (tCB (uLen K) (tCons (tVar 1) (tNil))))) (tNext)) (t__law_shows_r4 K s__law_left s__law_is_node s__law_are_just s__law_shows)
def t__law_shows_r6 (K : PySem.W.Frag) (s__law_left : Sp) (s__law_is_node : Sp) (s__law_are_just : Sp) (s__law_shows : Sp) : TS :=
  tSeq (tIfS (tOr (tNot (tTru K (tCB (rIsi K) (tCons (tOp (uIx K) (tVar 2) (tC (.int 1))) (tCons (tC (.ty "str")) (tNil)))))) (tTest (tOp (uIn K true) (tOp (uIx K) (tVar 2) (tC (.int 1))) (tVar 4)))) (tRet (tC (.bl false))) (tNext)) (t__law_shows_r5 K s__law_left s__law_is_node s__law_are_just s__law_shows)
def t__law_shows_r7 (K : PySem.W.Frag) (s__law_left : Sp) (s__law_is_node : Sp) (s__law_are_just : Sp) (s__law_shows : Sp) : TS :=
  tSeq (tIfS (tAnd (tNot (tTru K (tGo s__law_is_node E0 (tCons (tVar 2) (tCons (tC (.str "bare")) (tCons (tC (.int 2)) (tNil))))))) (tNot (tTru K (tGo s__law_is_node E0 (tCons (tVar 2) (tCons (tC (.str "by")) (tCons (tC (.int 3)) (tNil)))))))) (tRet (tC (.bl false))) (tNext)) (t__law_shows_r6 K s__law_left s__law_is_node s__law_are_just s__law_shows)
def t__law_shows (K : PySem.W.Frag) (s__law_left : Sp) (s__law_is_node : Sp) (s__law_are_just : Sp) (s__law_shows : Sp) : TS :=
  tSeq (tAsg (tTupU (tCons (tGo s__law_left E0 (tCons (tVar 0) (tCons (tVar 3) (tNil)))) (tCons (tDGet (tVar 0) (tC (.str "stands"))) (tNil)))) (gTup K 2 (gCons (gName 4) (gCons (gName 5) (gNil))))) (tSeq (tIfS (tTru K (tGo s__law_is_node E0 (tCons (tVar 2) (tCons (tC (.str "full")) (tCons (tC (.int 1)) (tNil)))))) (tSeq (tAsg (tCB (uSorted K) (tCons (tLc (iU K (tVar 3)) (gName 9) (tYes) (tIdx K (tVar 5) (tCons (tVar 9) (tNil))) [9]) (tNil))) (gName 6)) (tRet (tAndT K (tOp (uEq K false) (tCB (uLen K) (tCons (tVar 3) (tNil))) (tCB (uLen K) (tCons (tVar 1) (tNil)))) (tAndT K (tOp (uEq K false) (tVar 4) (tLstU (tNil))) (tNotT K (tOp (uLtD K) (tVar 6) (tLc (iU K (tVar 1)) (gName 9) (tYes) (tIdx K (tVar 5) (tCons (tVar 9) (tNil))) [9]))))))) (tNext)) (t__law_shows_r7 K s__law_left s__law_is_node s__law_are_just s__law_shows))
theorem dv__law_shows {P : Program} {w : World} {K : PySem.W.Frag} {mg : Str → Option Value} {b : Heap} {a : Addr} {d : FuncData} {sp : Sp} (F : Fn K mg "_law_shows" s__law_shows_ a d ["stage", "posts", "tree", "taken"])
    {a__law_left : Addr} {d__law_left : FuncData} {s__law_left : Sp} (F__law_left : Fn K mg "_law_left" s__law_left_ a__law_left d__law_left ["stage", "posts"]) (k__law_left : Keeps P w K mg b CX0 2 a__law_left d__law_left ["stage", "posts"] s__law_left)
    {a__law_is_node : Addr} {d__law_is_node : FuncData} {s__law_is_node : Sp} (F__law_is_node : Fn K mg "_law_is_node" s__law_is_node_ a__law_is_node d__law_is_node ["thing", "word", "many"]) (k__law_is_node : Keeps P w K mg b CX0 2 a__law_is_node d__law_is_node ["thing", "word", "many"] s__law_is_node)
    (n_sorted : mg "sorted" = none)
    (n_len : mg "len" = none)
    (n_isinstance : mg "isinstance" = none)
    (n_str : mg "str" = none)
    (n_tuple : mg "tuple" = none)
    {a__law_are_just : Addr} {d__law_are_just : FuncData} {s__law_are_just : Sp} (F__law_are_just : Fn K mg "_law_are_just" s__law_are_just_ a__law_are_just d__law_are_just ["heads", "due"]) (k__law_are_just : Keeps P w K mg b CX0 2 a__law_are_just d__law_are_just ["heads", "due"] s__law_are_just)
    (n_all : mg "all" = none)
    {lv : Nat} (hlv : 2 ≤ lv) {a__law_shows : Addr} {d__law_shows : FuncData} {s__law_shows : Sp} (F__law_shows : Fn K mg "_law_shows" s__law_shows_ a__law_shows d__law_shows ["stage", "posts", "tree", "taken"]) (k__law_shows : Keeps P w K mg b CX0 lv a__law_shows d__law_shows ["stage", "posts", "tree", "taken"] s__law_shows)
    (len : ∀ vs H Q E, sp vs H Q E → vs.length = 4)
    (rd : ∀ vs H Q E, sp vs H Q E → run (t__law_shows K s__law_left s__law_is_node s__law_are_just s__law_shows) (start N__law_shows vs) H Q) : Keeps P w K mg b CX0 (lv + 1) a d ["stage", "posts", "tree", "taken"] sp := by
  refine keeps0 F.fn sc__law_shows len fun cdv A o s H vs Q E hr h => ⟨t__law_shows K s__law_left s__law_is_node s__law_are_just s__law_shows, ?_, rd vs H Q E h⟩
  unfold t__law_shows t__law_shows_r7 t__law_shows_r6 t__law_shows_r5 t__law_shows_r4 t__law_shows_r3 t__law_shows_r2 t__law_shows_r1
  exact (pss_cons (ps_asg (pe_tupU (pa_cons (pe_go k__law_left (hr.mono (by omega)) rfl F__law_left.g F__law_left.fn.kp F__law_left.b pass0 (pa_cons (pv 0) (pa_cons (pv 3) pa_nil))) (pa_cons (pe_dget (hu_of hr.rm) (pv 0) pe_str (fun _ _ => rfl)) pa_nil))) (pg_tup rfl (pgs_cons (pg_name (i := 4) sc__law_shows.nd rfl (.inl rfl)) (pgs_cons (pg_name (i := 5) sc__law_shows.nd rfl (.inr rfl)) pgs_nil))))
  (pss_cons (ps_if (pt_tru (pe_go k__law_is_node (hr.mono (by omega)) rfl F__law_is_node.g F__law_is_node.fn.kp F__law_is_node.b pass0 (pa_cons (pv 2) (pa_cons pe_str (pa_cons pe_int pa_nil))))) (pss_cons (ps_set (i := 6) sc__law_shows.nd rfl (.inl rfl) (pe_callB (call_uSorted hr.rm.units) (by rfl) n_sorted (by decide +kernel) (pa_cons (pe_lc (own := [("one", 9)]) rfl sc__law_shows.nd (pi_u (pv 3)) (blkOk_by (own := [("one", 9)]) (N := N__law_shows) (sc := defScope s__law_shows_) (by decide +kernel)) (fun _ _ _ _ _ => (pg_name (i := 9) sc__law_shows.nd rfl (.inl rfl))) (fun _ _ _ _ _ => pts_nil) (fun _ _ _ _ _ => (pe_idx (pv 5) (pa_cons (pv 9) pa_nil)))) pa_nil)))
  (pss_one (ps_ret (pe_andT (pe_cmpR (op_uEq hr.rm.units) (pe_callB call_uLen (by rfl) n_len (by decide +kernel) (pa_cons (pv 3) pa_nil)) (pe_callB call_uLen (by rfl) n_len (by decide +kernel) (pa_cons (pv 1) pa_nil)) (nomark _)) (pe_andT (pe_cmpR (op_uEq hr.rm.units) (pv 4) (pe_lstU pa_nil) (nomark _)) (pe_one (pe_notT (pe_cmpR (op_uLtD hr.rm.units) (pv 6) (pe_lc (own := [("one", 9)]) rfl sc__law_shows.nd (pi_u (pv 1)) (blkOk_by (own := [("one", 9)]) (N := N__law_shows) (sc := defScope s__law_shows_) (by decide +kernel)) (fun _ _ _ _ _ => (pg_name (i := 9) sc__law_shows.nd rfl (.inl rfl))) (fun _ _ _ _ _ => pts_nil) (fun _ _ _ _ _ => (pe_idx (pv 5) (pa_cons (pv 9) pa_nil)))) (nomark _))))))))) pss_nil)
  (pss_cons (ps_if (PW.pt (pw_and (pt_not (pt_tru (pe_go k__law_is_node (hr.mono (by omega)) rfl F__law_is_node.g F__law_is_node.fn.kp F__law_is_node.b pass0 (pa_cons (pv 2) (pa_cons pe_str (pa_cons pe_int pa_nil)))))) (pw_and1 (pt_not (pt_tru (pe_go k__law_is_node (hr.mono (by omega)) rfl F__law_is_node.g F__law_is_node.fn.kp F__law_is_node.b pass0 (pa_cons (pv 2) (pa_cons pe_str (pa_cons pe_int pa_nil))))))))) (pss_one (ps_ret pe_bl)) pss_nil)
  (pss_cons (ps_if (PW.pt (pw_or (pt_not (pt_tru (pe_callB call_isi (by rfl) n_isinstance (by decide +kernel) (pa_cons (pe_ix ix_u (pv 2) pe_int (fun _ _ => rfl)) (pa_cons (pe_bltn (v := .ty "str") (by rfl) n_str (by decide +kernel) rfl) pa_nil))))) (pw_or1 (pt_cmpR op_uNotIn (pe_ix ix_u (pv 2) pe_int (fun _ _ => rfl)) (pv 4) rfl)))) (pss_one (ps_ret pe_bl)) pss_nil)
  (pss_cons (ps_if (pt_cmpR (op_uEq hr.rm.units) (pe_ix ix_u (pv 2) pe_int (fun _ _ => rfl)) pe_str (nomark _)) (pss_one (ps_ret (pe_cmpR (op_uEq hr.rm.units) (pe_callB call_uLen (by rfl) n_len (by decide +kernel) (pa_cons (pv 3) pa_nil)) (pe_callB call_uLen (by rfl) n_len (by decide +kernel) (pa_cons (pv 1) pa_nil)) (nomark _)))) pss_nil)
  (pss_cons (ps_if (PW.pt (pw_or (pt_cmpR op_ge (pe_callB call_uLen (by rfl) n_len (by decide +kernel) (pa_cons (pv 3) pa_nil)) (pe_callB call_uLen (by rfl) n_len (by decide +kernel) (pa_cons (pv 1) pa_nil)) (nomark _)) (pw_or1 (pt_not (pt_tru (pe_callB call_isi (by rfl) n_isinstance (by decide +kernel) (pa_cons (pe_ix ix_u (pv 2) pe_int (fun _ _ => rfl)) (pa_cons (pe_bltn (v := .ty "tuple") (by rfl) n_tuple (by decide +kernel) rfl) pa_nil)))))))) (pss_one (ps_ret pe_bl)) pss_nil)
  (pss_cons (ps_if (pt_cmpR (op_uNeE (un65 hr)) (pe_lc (own := [("one", 9)]) rfl sc__law_shows.nd (pi_u (pe_ix ix_u (pv 2) pe_int (fun _ _ => rfl))) (blkOk_by (own := [("one", 9)]) (N := N__law_shows) (sc := defScope s__law_shows_) (by decide +kernel)) (fun _ _ _ _ _ => (pg_name (i := 9) sc__law_shows.nd rfl (.inl rfl))) (fun _ _ _ _ _ => (pts_one (PW.pt (pw_or (pt_not (pt_tru (pe_callB call_isi (by rfl) n_isinstance (by decide +kernel) (pa_cons (pv 9) (pa_cons (pe_bltn (v := .ty "tuple") (by rfl) n_tuple (by decide +kernel) rfl) pa_nil))))) (pw_or1 (pt_cmpR (op_uNe hr.rm.units) (pe_callB call_uLen (by rfl) n_len (by decide +kernel) (pa_cons (pv 9) pa_nil)) pe_int (nomark _))))))) (fun _ _ _ _ _ => (pv 9))) (pe_lstU pa_nil) (nomark _)) (pss_one (ps_ret pe_bl)) pss_nil)
  (pss_cons (ps_setLc (i := 7) (own := [("stand", 8)]) rfl sc__law_shows.nd rfl rfl (sw_true rfl rfl rfl (by decide +kernel)) (pi_u (pv 5)) (blkOk_by (own := [("stand", 8)]) (N := N__law_shows) (sc := defScope s__law_shows_) (by decide +kernel)) (fun _ _ _ _ _ => (pg_name (i := 8) sc__law_shows.nd rfl (.inl rfl))) (fun _ _ _ _ _ => (pts_one (pt_cmpR op_uIn (pe_ix ix_u (pv 2) pe_int (fun _ _ => rfl)) (pe_dget (hu_of hr.rm) (pe_dget (hu_of hr.rm) (pv 0) pe_str (fun _ _ => rfl)) (pv 8) (fun _ _ => rfl)) rfl))) (fun _ _ _ _ _ => (pe_tupU (pa_cons (pv 8) pa_nil))))
  (pss_cons (ps_if (pt_not (pt_tru (pe_go k__law_are_just (hr.mono (by omega)) rfl F__law_are_just.g F__law_are_just.fn.kp F__law_are_just.b pass0 (pa_cons (pe_lc (own := [("one", 9)]) rfl sc__law_shows.nd (pi_u (pe_ix ix_u (pv 2) pe_int (fun _ _ => rfl))) (blkOk_by (own := [("one", 9)]) (N := N__law_shows) (sc := defScope s__law_shows_) (by decide +kernel)) (fun _ _ _ _ _ => (pg_name (i := 9) sc__law_shows.nd rfl (.inl rfl))) (fun _ _ _ _ _ => pts_nil) (fun _ _ _ _ _ => (pe_slice sl_u (pv 9) po_none (po_some pe_int)))) (pa_cons (pv 7) pa_nil))))) (pss_one (ps_ret pe_bl)) pss_nil)
  (pss_one (ps_ret (pe_callB (cr_all rfl) (by rfl) n_all (by decide +kernel) (pa_cons (pe_lc (own := [("one", 9)]) rfl sc__law_shows.nd (pi_u (pe_ix ix_u (pv 2) pe_int (fun _ _ => rfl))) (blkOk_by (own := [("one", 9)]) (N := N__law_shows) (sc := defScope s__law_shows_) (by decide +kernel)) (fun _ _ _ _ _ => (pg_name (i := 9) sc__law_shows.nd rfl (.inl rfl))) (fun _ _ _ _ _ => pts_nil) (fun _ _ _ _ _ => (pe_go k__law_shows (hr.mono (by omega)) rfl F__law_shows.g F__law_shows.fn.kp F__law_shows.b pass0 (pa_cons (pv 0) (pa_cons (pv 1) (pa_cons (pe_ix ix_u (pv 9) pe_int (fun _ _ => rfl)) (pa_cons (pe_op op_uAdd (pv 3) (pe_lstU (pa_cons (pe_ix ix_u (pv 9) pe_int (fun _ _ => rfl)) pa_nil))) pa_nil))))))) pa_nil)))))))))))))

abbrev s__law_tree_by_ : Stmt := topS 34
abbrev N__law_tree_by : List Str := ["held", "stage", "many", "taken", "left", "place", "stand", "stands", "branches"]
theorem sc__law_tree_by : FnScope N__law_tree_by ["held", "stage", "many", "taken"] (defScope s__law_tree_by_) := ⟨rfl, rfl, rfl, by decide +kernel, rfl, by decide +kernel, by decide +kernel⟩
def t__law_tree_by_b1 (K : PySem.W.Frag) (s__law_left : Sp) (s__law_draw : Sp) (s__law_some : Sp) (s__law_tree_by : Sp) : TS :=
  tDrop (tBM K "list" uAppend (tVar 8) (tCons (tTupU (tCons (tVar 6) (tCons (tGo s__law_tree_by E0 (tCons (tVar 0) (tCons (tVar 1) (tCons (tVar 2) (tCons (tOp (uAdd K) (tVar 3) (tLstU (tCons (tVar 6) (tNil)))) (tNil)))))) (tNil)))) (tNil)))
def t__law_tree_by_r1 (K : PySem.W.Frag) (s__law_left : Sp) (s__law_draw : Sp) (s__law_some : Sp) (s__law_tree_by : Sp) : TS :=
  tRet (tTupU (tCons (tC (.str "by")) (tCons (tVar 5) (tCons (tCB (uTuple K) (tCons (tVar 8) (tNil))) (tNil)))))
def t__law_tree_by_r2 (K : PySem.W.Frag) (s__law_left : Sp) (s__law_draw : Sp) (s__law_some : Sp) (s__law_tree_by : Sp) : TS :=
  tSeq (tAsg (tLc (iU K (tDGet (tVar 1) (tC (.str "stands")))) (gName 6) (tTest (tOp (uIn K false) (tVar 5) (tDGet (tDGet (tVar 1) (tC (.str "near"))) (tVar 6)))) (tVar 6) [6]) (gName 7)) (tSeq (tAsg (tLstU (tNil)) (gName 8)) (tSeq (tFor (iU K (tGo s__law_some E0 (tCons (tVar 0) (tCons (tVar 7) (tCons (tCB (uLen K) (tCons (tVar 7) (tNil))) (tNil)))))) (gName 6) (t__law_tree_by_b1 K s__law_left s__law_draw s__law_some s__law_tree_by)) (t__law_tree_by_r1 K s__law_left s__law_draw s__law_some s__law_tree_by)))
def t__law_tree_by_r3 (K : PySem.W.Frag) (s__law_left : Sp) (s__law_draw : Sp) (s__law_some : Sp) (s__law_tree_by : Sp) : TS :=
  tSeq (tAsg (tOp (uIx K) (tVar 4) (tGo s__law_draw E0 (tCons (tVar 0) (tCons (tCB (uLen K) (tCons (tVar 4) (tNil))) (tNil))))) (gName 5)) (tSeq (tIfS (tTest (tOp (rI0 fun i j => .bl (decide (j ≤ i))) (tCB (uLen K) (tCons (tVar 3) (tNil))) (tVar 2))) (tRet (tTupU (tCons (tC (.str "bare")) (tCons (tVar 5) (tNil))))) (tNext)) (t__law_tree_by_r2 K s__law_left s__law_draw s__law_some s__law_tree_by))
def t__law_tree_by (K : PySem.W.Frag) (s__law_left : Sp) (s__law_draw : Sp) (s__law_some : Sp) (s__law_tree_by : Sp) : TS :=
  tSeq (tAsg (tGo s__law_left E0 (tCons (tVar 1) (tCons (tVar 3) (tNil)))) (gName 4)) (tSeq (tIfS (tTest (tOp (uEq K false) (tVar 4) (tLstU (tNil)))) (tRet (tTupU (tCons (tC (.str "full")) (tNil)))) (tNext)) (t__law_tree_by_r3 K s__law_left s__law_draw s__law_some s__law_tree_by))
theorem dv__law_tree_by {P : Program} {w : World} {K : PySem.W.Frag} {mg : Str → Option Value} {b : Heap} {a : Addr} {d : FuncData} {sp : Sp} (F : Fn K mg "_law_tree_by" s__law_tree_by_ a d ["held", "stage", "many", "taken"])
    {a__law_left : Addr} {d__law_left : FuncData} {s__law_left : Sp} (F__law_left : Fn K mg "_law_left" s__law_left_ a__law_left d__law_left ["stage", "posts"]) (k__law_left : Keeps P w K mg b CX0 2 a__law_left d__law_left ["stage", "posts"] s__law_left)
    {a__law_draw : Addr} {d__law_draw : FuncData} {s__law_draw : Sp} (F__law_draw : Fn K mg "_law_draw" s__law_draw_ a__law_draw d__law_draw ["held", "many"]) (k__law_draw : Keeps P w K mg b CX0 2 a__law_draw d__law_draw ["held", "many"] s__law_draw)
    (n_len : mg "len" = none)
    {a__law_some : Addr} {d__law_some : FuncData} {s__law_some : Sp} (F__law_some : Fn K mg "_law_some" s__law_some_ a__law_some d__law_some ["held", "things", "many"]) (k__law_some : Keeps P w K mg b CX0 3 a__law_some d__law_some ["held", "things", "many"] s__law_some)
    {lv : Nat} (hlv : 3 ≤ lv) {a__law_tree_by : Addr} {d__law_tree_by : FuncData} {s__law_tree_by : Sp} (F__law_tree_by : Fn K mg "_law_tree_by" s__law_tree_by_ a__law_tree_by d__law_tree_by ["held", "stage", "many", "taken"]) (k__law_tree_by : Keeps P w K mg b CX0 lv a__law_tree_by d__law_tree_by ["held", "stage", "many", "taken"] s__law_tree_by)
    (n_tuple : mg "tuple" = none)
    (len : ∀ vs H Q E, sp vs H Q E → vs.length = 4)
    (rd : ∀ vs H Q E, sp vs H Q E → run (t__law_tree_by K s__law_left s__law_draw s__law_some s__law_tree_by) (start N__law_tree_by vs) H Q) : Keeps P w K mg b CX0 (lv + 1) a d ["held", "stage", "many", "taken"] sp := by
  refine keeps0 F.fn sc__law_tree_by len fun cdv A o s H vs Q E hr h => ⟨t__law_tree_by K s__law_left s__law_draw s__law_some s__law_tree_by, ?_, rd vs H Q E h⟩
  unfold t__law_tree_by t__law_tree_by_r3 t__law_tree_by_r2 t__law_tree_by_r1 t__law_tree_by_b1
  exact (pss_cons (ps_set (i := 4) sc__law_tree_by.nd rfl (.inl rfl) (pe_go k__law_left (hr.mono (by omega)) rfl F__law_left.g F__law_left.fn.kp F__law_left.b pass0 (pa_cons (pv 1) (pa_cons (pv 3) pa_nil))))
  (pss_cons (ps_if (pt_cmpR (op_uEq hr.rm.units) (pv 4) (pe_lstU pa_nil) (nomark _)) (pss_one (ps_ret (pe_tupU (pa_cons pe_str pa_nil)))) pss_nil)
  (pss_cons (ps_set (i := 5) sc__law_tree_by.nd rfl (.inr rfl) (pe_ix ix_u (pv 4) (pe_go k__law_draw (hr.mono (by omega)) rfl F__law_draw.g F__law_draw.fn.kp F__law_draw.b pass0 (pa_cons (pv 0) (pa_cons (pe_callB call_uLen (by rfl) n_len (by decide +kernel) (pa_cons (pv 4) pa_nil)) pa_nil))) (fun _ _ => rfl)))
  (pss_cons (ps_if (pt_cmpR op_ge (pe_callB call_uLen (by rfl) n_len (by decide +kernel) (pa_cons (pv 3) pa_nil)) (pv 2) (nomark _)) (pss_one (ps_ret (pe_tupU (pa_cons pe_str (pa_cons (pv 5) pa_nil))))) pss_nil)
  (pss_cons (ps_setLc (i := 7) (own := [("stand", 6)]) rfl sc__law_tree_by.nd rfl rfl (sw_true rfl rfl rfl (by decide +kernel)) (pi_u (pe_dget (hu_of hr.rm) (pv 1) pe_str (fun _ _ => rfl))) (blkOk_by (own := [("stand", 6)]) (N := N__law_tree_by) (sc := defScope s__law_tree_by_) (by decide +kernel)) (fun _ _ _ _ _ => (pg_name (i := 6) sc__law_tree_by.nd rfl (.inl rfl))) (fun _ _ _ _ _ => (pts_one (pt_cmpR op_uIn (pv 5) (pe_dget (hu_of hr.rm) (pe_dget (hu_of hr.rm) (pv 1) pe_str (fun _ _ => rfl)) (pv 6) (fun _ _ => rfl)) rfl))) (fun _ _ _ _ _ => (pv 6)))
  (pss_cons (ps_set (i := 8) sc__law_tree_by.nd rfl (.inl rfl) (pe_lstU pa_nil))
  (pss_cons (ps_for PassesOwn.never rfl (pi_u (pe_go k__law_some (hr.mono (by omega)) rfl F__law_some.g F__law_some.fn.kp F__law_some.b pass0 (pa_cons (pv 0) (pa_cons (pv 7) (pa_cons (pe_callB call_uLen (by rfl) n_len (by decide +kernel) (pa_cons (pv 7) pa_nil)) pa_nil))))) (pg_name (i := 6) sc__law_tree_by.nd rfl (.inl rfl)) (pss_one (ps_expr (pe_bm PySem.F.plainAttrs_list PySem.F.slot_list_append PySem.F.type_list_append mt_uAppend (pv 8) (pa_cons (pe_tupU (pa_cons (pv 6) (pa_cons (pe_go k__law_tree_by (hr.mono (by omega)) rfl F__law_tree_by.g F__law_tree_by.fn.kp F__law_tree_by.b pass0 (pa_cons (pv 0) (pa_cons (pv 1) (pa_cons (pv 2) (pa_cons (pe_op op_uAdd (pv 3) (pe_lstU (pa_cons (pv 6) pa_nil))) pa_nil))))) pa_nil))) pa_nil)))))
  (pss_one (ps_ret (pe_tupU (pa_cons pe_str (pa_cons (pv 5) (pa_cons (pe_callTy call_uTuple (by rfl) n_tuple (by decide +kernel) (pa_cons (pv 8) pa_nil)) pa_nil)))))))))))))

abbrev s_law_ : Stmt := topS 35
abbrev N_law : List Str := ["script", "held", "town", "chart", "stage", "asked", "turn", "posts", "many", "tree", "due"]
theorem sc_law : FnScope N_law ["script"] (defScope s_law_) := ⟨rfl, rfl, rfl, by decide +kernel, rfl, by decide +kernel, by decide +kernel⟩
def t_law_b1 (K : PySem.W.Frag) (s__law_held : Sp) (s__law_town : Sp) (s__law_chart : Sp) (s__law_shut : Sp) (s__law_stage : Sp) (s__law_covering : Sp) (s__law_fewest : Sp) (s__law_draw : Sp) (s__law_tree_by : Sp) (s__law_shows : Sp) (s_shows_posts : Sp) : TS :=
  tSeq (tAsg (tGo s__law_tree_by E0 (tCons (tVar 1) (tCons (tVar 4) (tCons (tVar 8) (tCons (tLstU (tNil)) (tNil)))))) (gName 9)) (tDrop (tBM K "list" uAppend (tVar 5) (tCons (tTupU (tCons (tVar 7) (tCons (tVar 9) (tCons (tGo s__law_shows E0 (tCons (tVar 4) (tCons (tVar 7) (tCons (tVar 9) (tCons (tLstU (tNil)) (tNil)))))) (tNil))))) (tNil))))
def t_law_b2 (K : PySem.W.Frag) (s__law_held : Sp) (s__law_town : Sp) (s__law_chart : Sp) (s__law_shut : Sp) (s__law_stage : Sp) (s__law_covering : Sp) (s__law_fewest : Sp) (s__law_draw : Sp) (s__law_tree_by : Sp) (s__law_shows : Sp) (s_shows_posts : Sp) : TS :=
  tSeq (tAsg (tOp (uIx K) (tLstU (tCons (tGo s__law_fewest E0 (tCons (tVar 4) (tNil))) (tCons (tGo s__law_covering E0 (tCons (tVar 1) (tCons (tVar 4) (tNil)))) (tNil)))) (tCB (uInt) (tCons (tOp (rI0 fun i j => .bl (decide (j < i))) (tVar 6) (tC (.int 0))) (tNil)))) (gName 7)) (tFor (iU K (tTupU (tCons (tCB (uLen K) (tCons (tVar 7) (tNil))) (tCons (tCB uMax2 (tCons (tC (.int 0)) (tCons (tOp (rI0 fun i j => .int (i - j)) (tOp (uAdd K) (tCB (uLen K) (tCons (tVar 7) (tNil))) (tGo s__law_draw E0 (tCons (tVar 1) (tCons (tC (.int 3)) (tNil))))) (tC (.int 1))) (tNil)))) (tNil))))) (gName 8) (t_law_b1 K s__law_held s__law_town s__law_chart s__law_shut s__law_stage s__law_covering s__law_fewest s__law_draw s__law_tree_by s__law_shows s_shows_posts))
def t_law_b3 (K : PySem.W.Frag) (s__law_held : Sp) (s__law_town : Sp) (s__law_chart : Sp) (s__law_shut : Sp) (s__law_stage : Sp) (s__law_covering : Sp) (s__law_fewest : Sp) (s__law_draw : Sp) (s__law_tree_by : Sp) (s__law_shows : Sp) (s_shows_posts : Sp) : TS :=
  tIfS (tTest (tOp (uEq K true) (tLc (iRng1 (tCons (tC (.int 2)) (tNil))) (gName 6) (tYes) (tGo s_shows_posts E0 (tCons (tVar 2) (tCons (tVar 3) (tCons (tVar 7) (tCons (tVar 9) (tNil)))))) [6]) (tLstU (tCons (tVar 10) (tCons (tVar 10) (tNil)))))) (tRet (tC (.bl false))) (tNext)
def t_law_r1 (K : PySem.W.Frag) (s__law_held : Sp) (s__law_town : Sp) (s__law_chart : Sp) (s__law_shut : Sp) (s__law_stage : Sp) (s__law_covering : Sp) (s__law_fewest : Sp) (s__law_draw : Sp) (s__law_tree_by : Sp) (s__law_shows : Sp) (s_shows_posts : Sp) : TS :=
  tRet (tC (.bl true))
def t_law_r2 (K : PySem.W.Frag) (s__law_held : Sp) (s__law_town : Sp) (s__law_chart : Sp) (s__law_shut : Sp) (s__law_stage : Sp) (s__law_covering : Sp) (s__law_fewest : Sp) (s__law_draw : Sp) (s__law_tree_by : Sp) (s__law_shows : Sp) (s_shows_posts : Sp) : TS :=
  tSeq (tFor (iU K (tOp (uAdd K) (tVar 5) (tSl (uSl K) (tVar 5) (tNoPart) (tPart (tC (.int 1)))))) (gTup K 3 (gCons (gName 7) (gCons (gName 9) (gCons (gName 10) (gNil))))) (t_law_b3 K s__law_held s__law_town s__law_chart s__law_shut s__law_stage s__law_covering s__law_fewest s__law_draw s__law_tree_by s__law_shows s_shows_posts)) (t_law_r1 K s__law_held s__law_town s__law_chart s__law_shut s__law_stage s__law_covering s__law_fewest s__law_draw s__law_tree_by s__law_shows s_shows_posts)
def t_law_r3 (K : PySem.W.Frag) (s__law_held : Sp) (s__law_town : Sp) (s__law_chart : Sp) (s__law_shut : Sp) (s__law_stage : Sp) (s__law_covering : Sp) (s__law_fewest : Sp) (s__law_draw : Sp) (s__law_tree_by : Sp) (s__law_shows : Sp) (s_shows_posts : Sp) : TS :=
  tSeq (tIfS (tTest (tOp rNotB (tOp (uIx K) (tOp (uIx K) (tVar 5) (tC (.int 0))) (tC (.int 2))) (tC (.bl true)))) (tRet (tC (.bl false))) (tNext)) (t_law_r2 K s__law_held s__law_town s__law_chart s__law_shut s__law_stage s__law_covering s__law_fewest s__law_draw s__law_tree_by s__law_shows s_shows_posts)
def t_law (K : PySem.W.Frag) (s__law_held : Sp) (s__law_town : Sp) (s__law_chart : Sp) (s__law_shut : Sp) (s__law_stage : Sp) (s__law_covering : Sp) (s__law_fewest : Sp) (s__law_draw : Sp) (s__law_tree_by : Sp) (s__law_shows : Sp) (s_shows_posts : Sp) : TS :=
  tSeq (tAsg (tGo s__law_held E0 (tCons (tVar 0) (tNil))) (gName 1)) (tSeq (tAsg (tGo s__law_town E0 (tCons (tVar 1) (tNil))) (gName 2)) (tSeq (tAsg (tGo s__law_chart E0 (tCons (tVar 2) (tCons (tGo s__law_shut E0 (tCons (tVar 1) (tCons (tVar 2) (tNil)))) (tNil)))) (gName 3)) (tSeq (tAsg (tGo s__law_stage E0 (tCons (tVar 2) (tCons (tVar 3) (tNil)))) (gName 4)) (tSeq (tAsg (tLstU (tNil)) (gName 5)) (tSeq (tFor (iRng1 (tCons (tC (.int 3)) (tNil))) (gName 6) (t_law_b2 K s__law_held s__law_town s__law_chart s__law_shut s__law_stage s__law_covering s__law_fewest s__law_draw s__law_tree_by s__law_shows s_shows_posts)) (t_law_r3 K s__law_held s__law_town s__law_chart s__law_shut s__law_stage s__law_covering s__law_fewest s__law_draw s__law_tree_by s__law_shows s_shows_posts))))))
theorem dv_law {P : Program} {w : World} {K : PySem.W.Frag} {mg : Str → Option Value} {b : Heap} {a : Addr} {d : FuncData} {sp : Sp} (F : Fn K mg "law" s_law_ a d ["script"])
    {a__law_held : Addr} {d__law_held : FuncData} {s__law_held : Sp} (F__law_held : Fn K mg "_law_held" s__law_held_ a__law_held d__law_held ["script"]) (k__law_held : Keeps P w K mg b CX0 2 a__law_held d__law_held ["script"] s__law_held)
    {a__law_town : Addr} {d__law_town : FuncData} {s__law_town : Sp} (F__law_town : Fn K mg "_law_town" s__law_town_ a__law_town d__law_town ["held"]) (k__law_town : Keeps P w K mg b CX0 4 a__law_town d__law_town ["held"] s__law_town)
    {a__law_chart : Addr} {d__law_chart : FuncData} {s__law_chart : Sp} (F__law_chart : Fn K mg "_law_chart" s__law_chart_ a__law_chart d__law_chart ["town", "shut"]) (k__law_chart : Keeps P w K mg b CX0 2 a__law_chart d__law_chart ["town", "shut"] s__law_chart)
    {a__law_shut : Addr} {d__law_shut : FuncData} {s__law_shut : Sp} (F__law_shut : Fn K mg "_law_shut" s__law_shut_ a__law_shut d__law_shut ["held", "town"]) (k__law_shut : Keeps P w K mg b CX0 3 a__law_shut d__law_shut ["held", "town"] s__law_shut)
    {a__law_stage : Addr} {d__law_stage : FuncData} {s__law_stage : Sp} (F__law_stage : Fn K mg "_law_stage" s__law_stage_ a__law_stage d__law_stage ["town", "chart"]) (k__law_stage : Keeps P w K mg b CX0 3 a__law_stage d__law_stage ["town", "chart"] s__law_stage)
    (n_range : mg "range" = none)
    {a__law_covering : Addr} {d__law_covering : FuncData} {s__law_covering : Sp} (F__law_covering : Fn K mg "_law_covering" s__law_covering_ a__law_covering d__law_covering ["held", "stage"]) (k__law_covering : Keeps P w K mg b CX0 4 a__law_covering d__law_covering ["held", "stage"] s__law_covering)
    {a__law_fewest : Addr} {d__law_fewest : FuncData} {s__law_fewest : Sp} (F__law_fewest : Fn K mg "_law_fewest" s__law_fewest_ a__law_fewest d__law_fewest ["stage"]) (k__law_fewest : Keeps P w K mg b CX0 3 a__law_fewest d__law_fewest ["stage"] s__law_fewest)
    (n_int : mg "int" = none)
    (n_max : mg "max" = none)
    (n_len : mg "len" = none)
    {a__law_draw : Addr} {d__law_draw : FuncData} {s__law_draw : Sp} (F__law_draw : Fn K mg "_law_draw" s__law_draw_ a__law_draw d__law_draw ["held", "many"]) (k__law_draw : Keeps P w K mg b CX0 2 a__law_draw d__law_draw ["held", "many"] s__law_draw)
    {a__law_tree_by : Addr} {d__law_tree_by : FuncData} {s__law_tree_by : Sp} (F__law_tree_by : Fn K mg "_law_tree_by" s__law_tree_by_ a__law_tree_by d__law_tree_by ["held", "stage", "many", "taken"]) (k__law_tree_by : Keeps P w K mg b CX0 9 a__law_tree_by d__law_tree_by ["held", "stage", "many", "taken"] s__law_tree_by)
    {a__law_shows : Addr} {d__law_shows : FuncData} {s__law_shows : Sp} (F__law_shows : Fn K mg "_law_shows" s__law_shows_ a__law_shows d__law_shows ["stage", "posts", "tree", "taken"]) (k__law_shows : Keeps P w K mg b CX0 9 a__law_shows d__law_shows ["stage", "posts", "tree", "taken"] s__law_shows)
    {a_shows_posts : Addr} {d_shows_posts : FuncData} {s_shows_posts : Sp} (F_shows_posts : Fn K mg "shows_posts" s_shows_posts_ a_shows_posts d_shows_posts ["town", "chart", "posts", "thing"]) (k_shows_posts : Keeps P w K mg b CX0 26 a_shows_posts d_shows_posts ["town", "chart", "posts", "thing"] s_shows_posts)
    (len : ∀ vs H Q E, sp vs H Q E → vs.length = 1)
    (rd : ∀ vs H Q E, sp vs H Q E → run (t_law K s__law_held s__law_town s__law_chart s__law_shut s__law_stage s__law_covering s__law_fewest s__law_draw s__law_tree_by s__law_shows s_shows_posts) (start N_law vs) H Q) : Keeps P w K mg b CX0 27 a d ["script"] sp := by
  refine keeps0 F.fn sc_law len fun cdv A o s H vs Q E hr h => ⟨t_law K s__law_held s__law_town s__law_chart s__law_shut s__law_stage s__law_covering s__law_fewest s__law_draw s__law_tree_by s__law_shows s_shows_posts, ?_, rd vs H Q E h⟩
  unfold t_law t_law_r3 t_law_r2 t_law_r1 t_law_b3 t_law_b2 t_law_b1
  exact (pss_cons (ps_set (i := 1) sc_law.nd rfl (.inl rfl) (pe_go k__law_held (hr.mono (by decide)) rfl F__law_held.g F__law_held.fn.kp F__law_held.b pass0 (pa_cons (pv 0) pa_nil)))
  (pss_cons (ps_set (i := 2) sc_law.nd rfl (.inr rfl) (pe_go k__law_town (hr.mono (by decide)) rfl F__law_town.g F__law_town.fn.kp F__law_town.b pass0 (pa_cons (pv 1) pa_nil)))
  (pss_cons (ps_set (i := 3) sc_law.nd rfl (.inr rfl) (pe_go k__law_chart (hr.mono (by decide)) rfl F__law_chart.g F__law_chart.fn.kp F__law_chart.b pass0 (pa_cons (pv 2) (pa_cons (pe_go k__law_shut (hr.mono (by decide)) rfl F__law_shut.g F__law_shut.fn.kp F__law_shut.b pass0 (pa_cons (pv 1) (pa_cons (pv 2) pa_nil))) pa_nil))))
  (pss_cons (ps_set (i := 4) sc_law.nd rfl (.inl rfl) (pe_go k__law_stage (hr.mono (by decide)) rfl F__law_stage.g F__law_stage.fn.kp F__law_stage.b pass0 (pa_cons (pv 2) (pa_cons (pv 3) pa_nil))))
  (pss_cons (ps_set (i := 5) sc_law.nd rfl (.inl rfl) (pe_lstU pa_nil))
  (pss_cons (ps_for PassesOwn.never rfl (pi_range1 (by rfl) n_range (pa_cons pe_int pa_nil)) (pg_name (i := 6) sc_law.nd rfl (.inl rfl)) (pss_cons (ps_set (i := 7) sc_law.nd rfl (.inr rfl) (pe_ix ix_u (pe_lstU (pa_cons (pe_go k__law_fewest (hr.mono (by decide)) rfl F__law_fewest.g F__law_fewest.fn.kp F__law_fewest.b pass0 (pa_cons (pv 4) pa_nil)) (pa_cons (pe_go k__law_covering (hr.mono (by decide)) rfl F__law_covering.g F__law_covering.fn.kp F__law_covering.b pass0 (pa_cons (pv 1) (pa_cons (pv 4) pa_nil))) pa_nil))) (pe_callTy call_uInt (by rfl) n_int (by decide +kernel) (pa_cons (pe_cmpR op_gt (pv 6) pe_int (nomark _)) pa_nil)) (fun _ _ => rfl)))
  (pss_one (ps_for PassesOwn.never rfl (pi_u (pe_tupU (pa_cons (pe_callB call_uLen (by rfl) n_len (by decide +kernel) (pa_cons (pv 7) pa_nil)) (pa_cons (pe_callB (call_uMax2 rfl) (by rfl) n_max (by decide +kernel) (pa_cons pe_int (pa_cons (pe_op op_sub (pe_op op_uAdd (pe_callB call_uLen (by rfl) n_len (by decide +kernel) (pa_cons (pv 7) pa_nil)) (pe_go k__law_draw (hr.mono (by decide)) rfl F__law_draw.g F__law_draw.fn.kp F__law_draw.b pass0 (pa_cons (pv 1) (pa_cons pe_int pa_nil)))) pe_int) pa_nil))) pa_nil)))) (pg_name (i := 8) sc_law.nd rfl (.inl rfl)) (pss_cons (ps_set (i := 9) sc_law.nd rfl (.inr rfl) (pe_go k__law_tree_by (hr.mono (by decide)) rfl F__law_tree_by.g F__law_tree_by.fn.kp F__law_tree_by.b pass0 (pa_cons (pv 1) (pa_cons (pv 4) (pa_cons (pv 8) (pa_cons (pe_lstU pa_nil) pa_nil))))))
  (pss_one (ps_expr (pe_bm PySem.F.plainAttrs_list PySem.F.slot_list_append PySem.F.type_list_append mt_uAppend (pv 5) (pa_cons (pe_tupU (pa_cons (pv 7) (pa_cons (pv 9) (pa_cons (pe_go k__law_shows (hr.mono (by decide)) rfl F__law_shows.g F__law_shows.fn.kp F__law_shows.b pass0 (pa_cons (pv 4) (pa_cons (pv 7) (pa_cons (pv 9) (pa_cons (pe_lstU pa_nil) pa_nil))))) pa_nil)))) pa_nil)))))))))
  (pss_cons (ps_if (pt_cmpR op_notBl (pe_ix ix_u (pe_ix ix_u (pv 5) pe_int (fun _ _ => rfl)) pe_int (fun _ _ => rfl)) pe_bl (nomark _)) (pss_one (ps_ret pe_bl)) pss_nil)
  (pss_cons (ps_for PassesOwn.never rfl (pi_u (pe_op op_uAdd (pv 5) (pe_slice sl_u (pv 5) po_none (po_some pe_int)))) (pg_tup rfl (pgs_cons (pg_name (i := 7) sc_law.nd rfl (.inr rfl)) (pgs_cons (pg_name (i := 9) sc_law.nd rfl (.inr rfl)) (pgs_cons (pg_name (i := 10) sc_law.nd rfl (.inl rfl)) pgs_nil)))) (pss_one (ps_if (pt_cmpR (op_uNe hr.rm.units) (pe_lc (own := [("turn", 6)]) rfl sc_law.nd (pi_range1 (by rfl) n_range (pa_cons pe_int pa_nil)) (blkOk_by (own := [("turn", 6)]) (N := N_law) (sc := defScope s_law_) (by decide +kernel)) (fun _ _ _ _ _ => (pg_name (i := 6) sc_law.nd rfl (.inl rfl))) (fun _ _ _ _ _ => pts_nil) (fun _ _ _ _ _ => (pe_go k_shows_posts (hr.mono (by decide)) rfl F_shows_posts.g F_shows_posts.fn.kp F_shows_posts.b pass0 (pa_cons (pv 2) (pa_cons (pv 3) (pa_cons (pv 7) (pa_cons (pv 9) pa_nil))))))) (pe_lstU (pa_cons (pv 10) (pa_cons (pv 10) pa_nil))) (nomark _)) (pss_one (ps_ret pe_bl)) pss_nil)))
  (pss_one (ps_ret pe_bl))))))))))


local macro_rules | `(tactic| walk_at "hp") => `(tactic| first | assumption | (refine Keep.at (by assumption) ?_ ?_ <;> first | exact nin0 | (refine nin1 ?_; walk_at "ne") | walk_at "hp"))
local macro_rules | `(tactic| walk_at "ne") => `(tactic| first | assumption | (refine Ne.symm ?_; assumption) | exact Tup.neL (by assumption) (by assumption) | exact ne_of_none (by assumption) (by assumption) | exact (ne_of_none (by assumption) (by assumption)).symm)
local macro_rules | `(tactic| walk_at "sx") => `(tactic| try simp only [run, tSeq, tAsg, tIfS, tTest, tOp, tUn, tVar, tC, tRet, tRetN, tDrop, gName, gSub, gCons, gNil, tNext, tCons, tNil, tGo, tCB, tAndT, tOrT, tNotT, tTru, tAnd, tOr, tNot, tChain, tIf, tLstU, tTupU, tSl, tPart, tNoPart, tPar, tBM, tBM0, tDNewU, tDic1,
  List.getElem?_cons_zero, List.getElem?_cons_succ, List.set_cons_zero, List.set_cons_succ, Option.some.injEq, exists_eq_left', exists_eq_left, V.int.injEq, V.bl.injEq, V.str.injEq, V.ref.injEq, true_and, and_true, e_rI, e_rI0, e_rU, e_addI, e_addS, e_mulI, e_abs, e_max2, e_min2, e_str, e_intI, e_intB, e_isN, e_notN, e_truB, e_truI, wipe, tYes, tDicI, tIdx, tM1, tM0, e_lcU, e_lcR1, e_ten6, e_ten18, e_ten60, e_mkV, e_mkA, e_raW, e_xfV, e_for1, e_for2, e_forU, e_forE, e_lcZ, e_dget, e_dput, e_forE, decide_eq_true_eq, if_true, if_false, ite_true, ite_false, Bool.false_eq_true, Bool.not_true, Bool.not_false, Bool.true_eq_false])
local macro_rules | `(tactic| walk_at "sz") => `(tactic| (first | refine len_le ?_ | refine len_lt ?_ | skip); simp only [List.length_cons, List.length_nil, List.length_append, List.length_map, List.length_replicate, List.length_set]; omega)
theorem cmul_small {i j : Int} (h : -(2 ^ 64) < i ∧ i < 2 ^ 64) : CMul i j := .inl h
theorem cmul_right {i j : Int} (h : -(2 ^ 64) < j ∧ j < 2 ^ 64) : CMul i j := .inr h
/-! ### texts by their signs -/
def cl (z : Str) : List Nat := z.cps.toList
theorem cl_app (x y : Str) : cl (x ++ y) = cl x ++ cl y := PySem.W.KT.app_list x y
theorem cl_inj {x y : Str} (h : cl x = cl y) : x = y := by
  obtain ⟨a⟩ := x
  obtain ⟨b⟩ := y
  exact congrArg Str.mk (Array.ext' h)
theorem cl_len (z : Str) : z.length = (cl z).length := by
  show z.cps.size = z.cps.toList.length
  rw [Array.length_toList]
theorem cl_cut (z : Str) (lo hi : Option Int) : cl (cutS z lo hi) = ((cl z).drop (HT.sIx z.length 0 lo)).take (HT.sIx z.length z.length hi - HT.sIx z.length 0 lo) := by
  unfold cl cutS
  simp
theorem cl_one (c : Nat) : cl ⟨#[c]⟩ = [c] := rfl
theorem cl_join0 : ∀ ys : List Str, cl (Txt.join "" ys) = (ys.map cl).flatten := by
  intro ys
  have h := TL.tl_join "" ys
  rw [TL.join_eq]
  have e : ∀ l : List (List Nat), TL.joinL [] l = l.flatten := by
    intro l
    induction l with
    | nil => rfl
    | cons a r ih =>
      cases r with
      | nil => simp [TL.joinL]
      | cons b r => 
        simp only [TL.joinL, List.nil_append, List.flatten_cons]
        rw [ih]
        simp
  exact h.trans (e _)
def sgn (i : Nat) : Nat := if i < 26 then 97 + i else 48 + (i - 26)
theorem sgn_at : ∀ i, i < 36 → (cl "abcdefghijklmnopqrstuvwxyz0123456789")[i]? = some (sgn i) := by decide +kernel
theorem sgn_inj {i j : Nat} (hi : i < 36) (hj : j < 36) (h : sgn i = sgn j) : i = j := by
  unfold sgn at h
  split at h <;> split at h <;> omega
def isLt (c : Nat) : Prop := 97 ≤ c ∧ c ≤ 122
def isSg (c : Nat) : Prop := isLt c ∨ (48 ≤ c ∧ c ≤ 57)
theorem sgn_sg {i : Nat} (h : i < 36) : isSg (sgn i) := by
  unfold isSg isLt sgn
  split <;> omega
theorem sgn_lt {i : Nat} (h : i < 26) : isLt (sgn i) := by
  unfold isLt sgn
  rw [if_pos h]
  omega
/-- a name by its signs -/
def NameOk (l : List Nat) : Prop := 1 ≤ l.length ∧ l.length ≤ 8 ∧ (∀ c ∈ l, isSg c) ∧ ∀ c, l.head? = some c → isLt c
instance (c : Nat) : Decidable (isLt c) := by unfold isLt; infer_instance
instance (c : Nat) : Decidable (isSg c) := by unfold isSg; infer_instance
def nameB (l : List Nat) : Bool := decide (1 ≤ l.length) && decide (l.length ≤ 8) && l.all (fun c => decide (isSg c)) && (l.take 1).all (fun c => decide (isLt c))
theorem nameB_ok {l : List Nat} (h : nameB l = true) : NameOk l := by
  unfold nameB at h
  simp only [Bool.and_eq_true, decide_eq_true_eq, List.all_eq_true] at h
  obtain ⟨⟨⟨h1, h2⟩, h3⟩, h4⟩ := h
  refine ⟨h1, h2, h3, fun c hc => h4 c ?_⟩
  cases l with
  | nil => cases hc
  | cons a r => cases hc; simp
/-! ### names -/
/-- the word with the sign c at its place t -/
def putAt (w : List Nat) (t c : Nat) : List Nat := w.take t ++ [c] ++ w.drop (t + 1)
theorem putAt_len {w : List Nat} {t c : Nat} (h : t < w.length) : (putAt w t c).length = w.length := by
  unfold putAt
  simp
  omega
theorem putAt_get {w : List Nat} {t c : Nat} (h : t < w.length) : (putAt w t c)[t]? = some c := by
  unfold putAt
  rw [List.append_assoc, List.getElem?_append_right (by simp; omega)]
  simp
  have : t - min t w.length = 0 := by omega
  rw [this]
  rfl
theorem putAt_sg {w : List Nat} {t c : Nat} (h : ∀ x ∈ w, isSg x) (hc : isSg c) : ∀ x ∈ putAt w t c, isSg x := by
  intro x hx
  unfold putAt at hx
  simp only [List.mem_append, List.mem_singleton] at hx
  rcases hx with (hx | rfl) | hx
  · exact h x (List.mem_of_mem_take hx)
  · exact hc
  · exact h x (List.mem_of_mem_drop hx)
theorem putAt_head {w : List Nat} {t c : Nat} (hl : t < w.length) (h : ∀ x, w.head? = some x → isLt x) (hc : t = 0 → isLt c) : ∀ x, (putAt w t c).head? = some x → isLt x := by
  intro x hx
  unfold putAt at hx
  cases t with
  | zero =>
    simp at hx
    rw [← hx]
    exact hc rfl
  | succ t =>
    cases w with
    | nil => exact absurd hl (by simp)
    | cons a r =>
      simp at hx
      exact h x (by simp [hx])
theorem take_name {l : List Nat} {n : Nat} (h1 : 1 ≤ l.length) (h2 : l.length ≤ 8) (h3 : ∀ c ∈ l, isSg c) (h4 : ∀ c, l.head? = some c → isLt c) (hn : 1 ≤ n) : NameOk (l.take n) := by
  refine ⟨by rw [List.length_take]; omega, by rw [List.length_take]; omega, fun c hc => h3 c (List.mem_of_mem_take hc), fun c hc => h4 c ?_⟩
  cases l with
  | nil => simp at hc
  | cons a r =>
    obtain ⟨m, rfl⟩ : ∃ m, n = m + 1 := ⟨n - 1, by omega⟩
    simpa using hc
theorem words_special : Txt.split "free to at sent there cut done off call told passed on open shut grade bare held" " " = (["free", "to", "at", "sent", "there", "cut", "done", "off", "call", "told", "passed", "on", "open", "shut", "grade", "bare", "held"] : List String).map Str.ofString := by decide +kernel
def specials : List Str := (["free", "to", "at", "sent", "there", "cut", "done", "off", "call", "told", "passed", "on", "open", "shut", "grade", "bare", "held", "moved", "stands", "drives"] : List String).map Str.ofString
theorem specials_ok : ∀ z ∈ specials, NameOk (cl z) := by
  intro z hz
  have h : ∀ z ∈ specials, nameB (cl z) = true := by decide +kernel
  exact nameB_ok (h z hz)
/-! ### towns -/
def mV : Option Int → V
  | none => .non
  | some i => .int i
structure Rd where
  one : Str
  two : Str
  there : Option Int
  back : Option Int
structure Tn where
  places : List Str
  roads : List Rd
  stands : List Str
  reach : Int
def minOk (t : Option Int) : Prop := ∀ i, t = some i → 1 ≤ i ∧ i ≤ 60
structure RdOk (ys : List Str) (r : Rd) : Prop where
  one : r.one ∈ ys
  two : r.two ∈ ys
  ne : r.one ≠ r.two
  there : minOk r.there
  back : minOk r.back
  some : r.there ≠ none ∨ r.back ≠ none
structure TnOk (T : Tn) : Prop where
  p1 : 1 ≤ T.places.length
  p10 : T.places.length ≤ 10
  nd : T.places.Nodup
  nm : ∀ y ∈ T.places, NameOk (cl y)
  r18 : T.roads.length ≤ 18
  rd : ∀ r ∈ T.roads, RdOk T.places r
  s1 : 1 ≤ T.stands.length
  s5 : T.stands.length ≤ 5
  sn : T.stands.Nodup
  sp : ∀ y ∈ T.stands, y ∈ T.places
  re0 : 0 ≤ T.reach
  re1 : T.reach ≤ 120
def RdAt (H : Hp) (p : Addr) (r : Rd) : Prop := Tup H p [.str r.one, .str r.two, mV r.there, mV r.back]
/-- the roads' tuples, one by one -/
inductive RdsAt (H : Hp) : List V → List Rd → Prop
  | nil : RdsAt H [] []
  | cons {p : Addr} {r : Rd} {vs : List V} {rs : List Rd} : RdAt H p r → RdsAt H vs rs → RdsAt H (.ref p :: vs) (r :: rs)
def TnAt (H : Hp) (a : Addr) (T : Tn) : Prop := ∃ ap ar as vs, Tup H a [.ref ap, .ref ar, .ref as, .int T.reach] ∧ Tup H ap (T.places.map V.str) ∧ Tup H ar vs ∧ RdsAt H vs T.roads ∧ Tup H as (T.stands.map V.str)
/-- what is changed is no tuple -/
def NoTup (S : List Addr) (H : Hp) : Prop := ∀ a xs, Tup H a xs → a ∉ S
theorem noTup0 {H : Hp} : NoTup [] H := fun _ _ _ => nin0
theorem noTup1 {H : Hp} {l : Addr} {xs : List V} (h : H l = some (.lst xs)) : NoTup [l] H := fun _ _ t => nin1 (t.neL h)
theorem noTupNew {H : Hp} {l : Addr} (h : H l = none) : NoTup [l] H := fun a _ t => nin1 fun z => by
  obtain ⟨o, e⟩ := t.there
  rw [z, h] at e
  cases e
theorem RdAt.keep {S : List Addr} {H H' : Hp} {p : Addr} {r : Rd} (h : RdAt H p r) (k : Keep S H H') (n : NoTup S H) : RdAt H' p r := Tup.keep h k (n _ _ h)
theorem RdsAt.keep {S : List Addr} {H H' : Hp} (k : Keep S H H') (n : NoTup S H) : ∀ {vs : List V} {rs : List Rd}, RdsAt H vs rs → RdsAt H' vs rs
  | _, _, .nil => .nil
  | _, _, .cons h q => .cons (h.keep k n) (RdsAt.keep k n q)
theorem TnAt.keep {S : List Addr} {H H' : Hp} {a : Addr} {T : Tn} (h : TnAt H a T) (k : Keep S H H') (n : NoTup S H) : TnAt H' a T := by
  obtain ⟨ap, ar, as, vs, h1, h2, h3, h4, h5⟩ := h
  exact ⟨ap, ar, as, vs, h1.keep k (n _ _ h1), h2.keep k (n _ _ h2), h3.keep k (n _ _ h3), h4.keep k n, h5.keep k (n _ _ h5)⟩
theorem RdsAt.len {H : Hp} : ∀ {vs : List V} {rs : List Rd}, RdsAt H vs rs → vs.length = rs.length
  | _, _, .nil => rfl
  | _, _, .cons _ q => congrArg (· + 1) q.len
theorem RdsAt.snoc {H : Hp} {p : Addr} {r : Rd} (h : RdAt H p r) : ∀ {vs : List V} {rs : List Rd}, RdsAt H vs rs → RdsAt H (vs ++ [.ref p]) (rs ++ [r])
  | _, _, .nil => .cons h .nil
  | _, _, .cons h' q => .cons h' (RdsAt.snoc h q)
theorem RdsAt.get {H : Hp} : ∀ {vs : List V} {rs : List Rd} {i : Nat} {r : Rd}, RdsAt H vs rs → rs[i]? = some r → ∃ p, vs[i]? = some (.ref p) ∧ RdAt H p r
  | _, _, _, _, .nil, e => by simp at e
  | _, _, 0, _, .cons (p := p) h _, e => by
    simp at e
    subst e
    exact ⟨p, rfl, h⟩
  | _, _, i + 1, _, .cons _ q, e => by
    obtain ⟨p, h1, h2⟩ := RdsAt.get (i := i) q (by simpa using e)
    exact ⟨p, by simpa using h1, h2⟩
theorem turned_sub {ys : List Str} {a k : Nat} (ha : a ≤ ys.length) (hk : k ≤ ys.length) : (((ys ++ ys).drop a).take k).Sublist (ys.drop a ++ ys.take a) := by
  rw [List.drop_append_of_le_length ha, List.take_append]
  refine List.Sublist.append (List.take_sublist _ _) ?_
  have : k - (ys.drop a).length ≤ a := by rw [List.length_drop]; omega
  exact List.IsPrefix.sublist (List.take_prefix_take_left this)
theorem turned_nodup {ys : List Str} {a k : Nat} (h : ys.Nodup) (ha : a ≤ ys.length) (hk : k ≤ ys.length) : (((ys ++ ys).drop a).take k).Nodup := by
  have e : (ys.drop a ++ ys.take a).Nodup := by
    have h2 := h
    rw [← List.take_append_drop a ys, List.nodup_append] at h2
    rw [List.nodup_append]
    exact ⟨h2.2.1, h2.1, fun x hx y hy e => h2.2.2 y hy x hx e.symm⟩
  exact e.sublist (turned_sub ha hk)
theorem turned_mem {ys : List Str} {a k : Nat} : ∀ y ∈ ((ys ++ ys).drop a).take k, y ∈ ys := fun y hy => by
  have := List.mem_of_mem_drop (List.mem_of_mem_take hy)
  simpa using this
/-! rows of any kind -/
inductive Rws {α : Type} (f : α → List V) (H : Hp) : List V → List α → Prop
  | nil : Rws f H [] []
  | cons {p : Addr} {r : α} {vs : List V} {rs : List α} : Tup H p (f r) → Rws f H vs rs → Rws f H (.ref p :: vs) (r :: rs)
section
variable {α : Type} {f : α → List V} {H H' : Hp}
theorem Rws.keep {S : List Addr} (k : Keep S H H') (n : NoTup S H) : ∀ {vs : List V} {rs : List α}, Rws f H vs rs → Rws f H' vs rs
  | _, _, .nil => .nil
  | _, _, .cons h q => .cons (h.keep k (n _ _ h)) (Rws.keep k n q)
theorem Rws.len : ∀ {vs : List V} {rs : List α}, Rws f H vs rs → vs.length = rs.length
  | _, _, .nil => rfl
  | _, _, .cons _ q => congrArg (· + 1) q.len
theorem Rws.snoc {p : Addr} {r : α} (h : Tup H p (f r)) : ∀ {vs : List V} {rs : List α}, Rws f H vs rs → Rws f H (vs ++ [.ref p]) (rs ++ [r])
  | _, _, .nil => .cons h .nil
  | _, _, .cons h' q => .cons h' (Rws.snoc h q)
theorem Rws.get : ∀ {vs : List V} {rs : List α} {i : Nat} {r : α}, Rws f H vs rs → rs[i]? = some r → ∃ p, vs[i]? = some (.ref p) ∧ Tup H p (f r)
  | _, _, _, _, .nil, e => by simp at e
  | _, _, 0, _, .cons (p := p) h _, e => by
    simp at e
    subst e
    exact ⟨p, rfl, h⟩
  | _, _, i + 1, _, .cons _ q, e => by
    obtain ⟨p, h1, h2⟩ := Rws.get (i := i) q (by simpa using e)
    exact ⟨p, by simpa using h1, h2⟩
end
/-! ### things in a row -/
abbrev EI {α β : Type} (R : α → β → Prop) (vs : List α) (rs : List β) : Prop := PySem.W.EachIs R vs rs
theorem ei_snoc {α β : Type} {R : α → β → Prop} {v : α} {r : β} (h : R v r) : ∀ {vs : List α} {rs : List β}, EI R vs rs → EI R (vs ++ [v]) (rs ++ [r])
  | _, _, .nil => .cons h .nil
  | _, _, .cons h' q => .cons h' (ei_snoc h q)
theorem ei_get {α β : Type} {R : α → β → Prop} : ∀ {vs : List α} {rs : List β} {i : Nat} {r : β}, EI R vs rs → rs[i]? = some r → ∃ v, vs[i]? = some v ∧ R v r
  | _, _, _, _, .nil, e => by simp at e
  | _, _, 0, _, .cons (a := p) h _, e => by
    simp at e
    subst e
    exact ⟨p, rfl, h⟩
  | _, _, i + 1, _, .cons _ q, e => by
    obtain ⟨p, h1, h2⟩ := ei_get (i := i) q (by simpa using e)
    exact ⟨p, by simpa using h1, h2⟩
theorem ei_got {α β : Type} {R : α → β → Prop} {vs : List α} {rs : List β} {i : Nat} {v : α} (h : EI R vs rs) (e : vs[i]? = some v) : ∃ r, rs[i]? = some r ∧ R v r := by
  have hi : i < rs.length := by rw [← h.length]; exact (List.getElem?_eq_some_iff.mp e).1
  obtain ⟨v', h1, h2⟩ := ei_get h (List.getElem?_eq_getElem hi)
  rw [e] at h1
  cases h1
  exact ⟨_, List.getElem?_eq_getElem hi, h2⟩
def NoT (S : List Addr) (H : Hp) : Prop := ∀ a ∈ S, H a = none ∨ ∃ xs, H a = some (.lst xs)
theorem sqt_keep {K : PySem.W.Frag} {S : List Addr} {H H' : Hp} {a : Addr} {xs : List V} (h : SqT K H a xs) (k : Keep S H H') (n : NoT S H) : SqT K H' a xs := by
  have na : ∀ {o : HO}, H a = some o → (∀ ys, o ≠ .lst ys) → a ∉ S := fun e ne hm => by
    rcases n a hm with z | ⟨ys, z⟩
    · rw [e] at z; cases z
    · rw [e] at z; cases z; exact ne _ rfl
  rcases h with (h | ⟨o, h⟩) | h
  · exact .inl (.inl (k _ _ (na h fun ys z => nomatch z) h))
  · exact .inl (.inr ⟨o, k _ _ (na h fun ys z => nomatch z) h⟩)
  · exact .inr h
theorem noT0 {H : Hp} : NoT [] H := fun _ h => (List.not_mem_nil h).elim
theorem noT1 {H : Hp} {l : Addr} {xs : List V} (h : H l = some (.lst xs)) : NoT [l] H := fun a ha => .inr ⟨xs, by rw [List.mem_singleton.mp ha]; exact h⟩
theorem noTn {H : Hp} {l : Addr} (h : H l = none) : NoT [l] H := fun a ha => .inl (by rw [List.mem_singleton.mp ha]; exact h)
theorem NoT.tup {S : List Addr} {H : Hp} (n : NoT S H) : NoTup S H := fun a xs t ha => by
  rcases n a ha with z | ⟨ys, z⟩
  · obtain ⟨o, e⟩ := t.there
    rw [e] at z; cases z
  · exact t.neL z rfl
/-- a list or a tuple that stands still -/
def Sq (H : Hp) (a : Addr) (xs : List V) : Prop := H a = some (.lst xs) ∨ Tup H a xs
theorem Sq.keep {S : List Addr} {H H' : Hp} {a : Addr} {xs : List V} (h : Sq H a xs) (k : Keep S H H') (n : a ∉ S) : Sq H' a xs := h.elim (fun h => .inl (k _ _ n h)) fun h => .inr (h.keep k n)
theorem Sq.there {H : Hp} {a : Addr} {xs : List V} (h : Sq H a xs) : ∃ o, H a = some o := h.elim (fun h => ⟨_, h⟩) fun h => h.there
/-- a comprehension over a list or tuple of things -/
theorem g_CE {K : PySem.W.Frag} {α : Type} {RR : Hp → V → α → Prop} {g : TG} {tt : TT} {te : TE} {vs : List Nat} {σ : L2.St} {H1 : Hp} {Q : VK} {a : Addr} {xs : List V} {rs : List α} (hx : Sq H1 a xs) (he : EI (RR H1) xs rs)
    (hk : ∀ H H' x r, RR H x r → Keep [] H H' → RR H' x r) (P : Nat → Hp → List V → Prop) (p0 : ∀ D H2, H1 D = none → Keep [] H1 H2 → P 0 H2 [])
    (ps : ∀ D i x r H acc (R : VK) (R0 : Hp → Prop), H1 D = none → rs[i]? = some r → Keep [] H1 H → H D = some (.lst acc) → RR H x r → P i H acc →
      (∀ y H4, Keep [] H H4 → acc.length < sizeLine → (∀ H5, Keep [D] H4 H5 → P (i + 1) H5 (acc ++ [y])) → R y H4) → (∀ H3, Keep [] H H3 → P (i + 1) H3 acc → R0 H3) →
      g x (wipe σ vs) H fun σ2 H2 => wipe σ2 vs = wipe σ vs ∧ tt σ2 H2 fun b H3 => if b = true then te σ2 H3 R else R0 H3)
    (pd : ∀ D H acc, H1 D = none → Keep [] H1 H → H D = some (.lst acc) → P rs.length H acc → Q (.ref D) H) : CU K g tt te vs σ Q (.ref a) H1 := by
  have L : CLoop [] xs.length (fun i => xs.getD i .non) g tt te vs σ H1 Q := by
    refine ⟨P, p0, fun D i H acc R R0 nD hi k e p hR hR0 => ?_, fun D H acc n k e p => pd D H acc n k e (by rw [← he.length]; exact p)⟩
    obtain ⟨r, e1, e2⟩ := ei_got he (List.getElem?_eq_getElem hi)
    have e3 : xs.getD i .non = xs[i] := by rw [List.getD_eq_getElem?_getD, List.getElem?_eq_getElem hi]; rfl
    show g (xs.getD i .non) _ _ _
    rw [e3]
    exact ps D i _ r H acc R R0 nD e1 k e (hk _ _ _ _ e2 k) p hR hR0
  exact hx.elim (fun h => g_CL (S := []) (fun _ h => (List.not_mem_nil h).elim) h nin0 L) fun h => g_CT (S := []) (fun _ h => (List.not_mem_nil h).elim) h nin0 L
/-- a for over a list or tuple of things -/
theorem g_FEs {K : PySem.W.Frag} {α : Type} {RR : Hp → V → α → Prop} {g : TG} {tb : TS} {D : Ends} {σ : L2.St} {H1 : Hp} {a : Addr} {xs : List V} {rs : List α} (S : List Addr) (hx : Sq H1 a xs) (na : a ∉ S) (he : EI (RR H1) xs rs)
    (hk : ∀ H' x r, RR H1 x r → Keep S H1 H' → RR H' x r) (Pv : Nat → L2.St → Hp → Prop) (h0 : Pv 0 σ H1)
    (hs : ∀ i x r σ H, rs[i]? = some r → Keep S H1 H → RR H x r → Pv i σ H → g x σ H fun σ2 H2 => tb { D with nx := fun σ' H' => Keep S H1 H' ∧ Pv (i + 1) σ' H', ct := fun σ' H' => Keep S H1 H' ∧ Pv (i + 1) σ' H', bk := D.nx } σ2 H2)
    (hd : ∀ σ H, Keep S H1 H → Pv rs.length σ H → D.nx σ H) : FU K g tb D σ (.ref a) H1 := by
  have hl := he.length
  have st : ∀ (i : Nat) (x : V) (σ : L2.St) (H : Hp), xs[i]? = some x → (Keep S H1 H ∧ Pv i σ H) → g x σ H fun σ2 H2 => tb { D with nx := fun σ' H' => Keep S H1 H' ∧ Pv (i + 1) σ' H', ct := fun σ' H' => Keep S H1 H' ∧ Pv (i + 1) σ' H', bk := D.nx } σ2 H2 := fun i x σ H ex ⟨k, p⟩ => by
    obtain ⟨r, e1, e2⟩ := ei_got he ex
    exact hs i x r σ H e1 k (hk _ _ _ e2 k) p
  rcases hx with h | h
  · exact g_FL (fun i σ H => Keep S H1 H ∧ Pv i σ H) (lst_sq h) ⟨Keep.refl _ _, h0⟩ (fun i σ H _ p => lst_sq (p.1 _ _ na h)) (fun i x σ H ex p => st i x σ H ex p) fun σ H p => hd σ H p.1 (by rw [← hl]; exact p.2)
  · exact g_FT (fun i σ H => Keep S H1 H ∧ Pv i σ H) h ⟨Keep.refl _ _, h0⟩ (fun i σ H _ p => h.keep p.1 na) (fun i x σ H ex p => st i x σ H ex p) fun σ H p => hd σ H p.1 (by rw [← hl]; exact p.2)

/-! ### the pen, a dict -/
theorem nCA : ¬ ((Sum.inr ("cells" : Str) : Key) = Sum.inr ("at" : Str)) := by decide +kernel
theorem nCL : ¬ ((Sum.inr ("cells" : Str) : Key) = Sum.inr ("left" : Str)) := by decide +kernel
theorem nAL : ¬ ((Sum.inr ("at" : Str) : Key) = Sum.inr ("left" : Str)) := by decide +kernel
theorem nLA : ¬ ((Sum.inr ("left" : Str) : Key) = Sum.inr ("at" : Str)) := by decide +kernel
def penK (c : Addr) (at' lf : Int) : List (Key × V) := [(.inr "cells", .ref c), (.inr "at", .int at'), (.inr "left", .int lf)]
structure Pen (H : Hp) (d c : Addr) (cells : List Int) (at' lf : Int) : Prop where
  d : H d = some (.dK (penK c at' lf))
  c : H c = some (.lst (cells.map V.int))
  l : cells.length ≤ 63
  a0 : 0 ≤ at'
  l0 : 0 ≤ lf
/-- the pen, at most n times asked -/
def PenOk (H : Hp) (d c : Addr) (n : Nat) : Prop := ∃ cells at' lf, Pen H d c cells at' lf ∧ at' ≤ n
theorem PenOk.mono {H : Hp} {d c : Addr} {n m : Nat} (h : PenOk H d c n) (l : n ≤ m) : PenOk H d c m := by
  obtain ⟨cells, a, b, p, h⟩ := h
  exact ⟨cells, a, b, p, by omega⟩
theorem Pen.keep {H H' : Hp} {d c : Addr} {cells : List Int} {at' lf : Int} (p : Pen H d c cells at' lf) (k : Keep [] H H') : Pen H' d c cells at' lf := ⟨k _ _ nin0 p.d, k _ _ nin0 p.c, p.l, p.a0, p.l0⟩
theorem PenOk.keep {H H' : Hp} {d c : Addr} {n : Nat} (h : PenOk H d c n) (k : Keep [] H H') : PenOk H' d c n := by
  obtain ⟨cells, a, b, p, h⟩ := h
  exact ⟨cells, a, b, p.keep k, h⟩
theorem PenOk.keepL {H H' : Hp} {d c l : Addr} {n : Nat} (h : PenOk H d c n) (k : Keep [l] H H') (n1 : d ≠ l) (n2 : c ≠ l) : PenOk H' d c n := by
  obtain ⟨cells, a, b, p, h⟩ := h
  exact ⟨cells, a, b, ⟨k _ _ (nin1 n1) p.d, k _ _ (nin1 n2) p.c, p.l, p.a0, p.l0⟩, h⟩
theorem PenOk.new {H : Hp} {d c l : Addr} {n : Nat} (h : PenOk H d c n) (e : H l = none) : d ≠ l ∧ c ≠ l := by
  obtain ⟨cells, a, b, p, h⟩ := h
  exact ⟨ne_of_none p.d e, ne_of_none p.c e⟩
theorem PenOk.there {H : Hp} {d c : Addr} {n : Nat} (h : PenOk H d c n) : ∀ b ∈ [d], ∃ o, H b = some o := by
  obtain ⟨cells, a, b, p, h⟩ := h
  intro b hb
  rw [List.mem_singleton.mp hb]
  exact ⟨_, p.d⟩
theorem PenOk.neT {H : Hp} {d c a : Addr} {n : Nat} {xs : List V} (h : PenOk H d c n) (t : Tup H a xs) : a ≠ d := by
  obtain ⟨cells, x, b, p, h⟩ := h
  exact t.neD p.d
theorem PenOk.noTup {H : Hp} {d c : Addr} {n : Nat} (h : PenOk H d c n) : NoTup [d] H := fun a xs t => nin1 (h.neT t)
theorem Pen.ne {H : Hp} {d c : Addr} {cells : List Int} {a l : Int} (p : Pen H d c cells a l) : c ≠ d := fun z => by
  have := p.c
  rw [z, p.d] at this
  cases this
theorem penK_cells {c : Addr} {a l : Int} : valV (penK c a l) (.inr "cells") = some (.ref c) := valV_pos rfl
theorem penK_at {c : Addr} {a l : Int} : valV (penK c a l) (.inr "at") = some (.int a) := by
  unfold penK
  rw [valV_neg nCA, valV_pos rfl]
theorem penK_left {c : Addr} {a l : Int} : valV (penK c a l) (.inr "left") = some (.int l) := by
  unfold penK
  rw [valV_neg nCL, valV_neg nAL, valV_pos rfl]
theorem penK_put_at {c : Addr} {a l v : Int} : putK (penK c a l) (.inr "at") (.int v) = penK c v l := by
  unfold putK penK
  simp
  exact ⟨fun h => nCA (congrArg Sum.inr h), fun h => absurd (congrArg Sum.inr h) nLA⟩
theorem penK_put_left {c : Addr} {a l v : Int} : putK (penK c a l) (.inr "left") (.int v) = penK c a v := by
  unfold putK penK
  simp
  exact ⟨fun h => nCL (congrArg Sum.inr h), fun h => absurd (congrArg Sum.inr h) nAL⟩
section
variable {H : Hp} {d c : Addr} {cells : List Int} {a l : Int} {Q : VK}
theorem g_cells (p : Pen H d c cells a l) (q : Q (.ref c) H) : uDG (.ref d) (.str "cells") H Q := ⟨d, _, rfl, .inl ⟨_, .inr "cells", .inl p.d, rfl, penK_cells.symm⟩, q⟩
theorem g_at (p : Pen H d c cells a l) (q : Q (.int a) H) : uDG (.ref d) (.str "at") H Q := ⟨d, _, rfl, .inl ⟨_, .inr "at", .inl p.d, rfl, penK_at.symm⟩, q⟩
theorem g_left (p : Pen H d c cells a l) (q : Q (.int l) H) : uDG (.ref d) (.str "left") H Q := ⟨d, _, rfl, .inl ⟨_, .inr "left", .inl p.d, rfl, penK_left.symm⟩, q⟩
theorem g_putAt {v : Int} {R : Hp → Prop} (p : Pen H d c cells a l) (hv : 0 ≤ v) (q : ∀ H', Keep [d] H H' → Pen H' d c cells v l → R H') : uDP (.ref d) (.str "at") (.int v) H R := by
  refine ⟨d, _, rfl, .inl ⟨_, .inr "at", p.d, rfl, len_lt (by simp [penK]), rfl⟩, q _ Keep.set ⟨?_, ?_, p.l, hv, p.l0⟩⟩
  · rw [upd_same, penK_put_at]
  · exact Keep.set _ _ (nin1 p.ne) p.c
theorem g_putLeft {v : Int} {R : Hp → Prop} (p : Pen H d c cells a l) (hv : 0 ≤ v) (q : ∀ H', Keep [d] H H' → Pen H' d c cells a v → R H') : uDP (.ref d) (.str "left") (.int v) H R := by
  refine ⟨d, _, rfl, .inl ⟨_, .inr "left", p.d, rfl, len_lt (by simp [penK]), rfl⟩, q _ Keep.set ⟨?_, ?_, p.l, p.a0, hv⟩⟩
  · rw [upd_same, penK_put_left]
  · exact Keep.set _ _ (nin1 p.ne) p.c
end
def spHeld (K : PySem.W.Frag) : Sp := fun vs H Q _ => ∃ (a : Addr) (ns : List Int), vs = [.ref a] ∧ Scr K H a (ns.map V.int) ∧ ns.length ≤ 63 ∧ ∀ d c H', H d = none → H c = none → Keep [] H H' → PenOk H' d c 0 → Q (.ref d) H'
theorem cutH_map {ns : List Int} {lo hi : Option Int} : ∃ ms : List Int, cutV (ns.map V.int) lo hi = ms.map V.int ∧ ms.length ≤ ns.length := by
  refine ⟨(ns.drop (HT.sIx ns.length 0 lo)).take (HT.sIx ns.length ns.length hi - HT.sIx ns.length 0 lo), ?_, ?_⟩
  · unfold cutV
    rw [List.length_map, List.map_take, List.map_drop]
  · rw [List.length_take, List.length_drop]
    omega
theorem rd_held (K : PySem.W.Frag) : ∀ vs H Q E, spHeld K vs H Q E → run (t__law_held K) (L2.start N__law_held vs) H Q := by
  rintro _ H Q _ ⟨a, ns, rfl, hS, hl, q⟩
  show run (t__law_held K) [some (.ref a)] H Q
  unfold t__law_held
  walk_at "sx"
  unfold tDisp
  intro d nd
  have k1 : Keep [] H (upd H d (.dK [])) := Keep.new nd
  have e1 : (upd H d (.dK [])) d = some (.dK []) := upd_same
  generalize upd H d (.dK []) = H1 at k1 e1
  simp only [tPairs]
  walk_at "sx"
  refine g_slL (hS.keep0 k1).sq fun l2 H2 n2 k2 e2 => g_listL e2 fun l3 H3 n3 k3 e3 => ?_
  obtain ⟨ms, em, lm⟩ := cutH_map (ns := ns) (lo := none) (hi := some 63)
  rw [em] at e3
  have ed := (k2.trans k3) _ _ nin0 e1
  refine ⟨ed, penK l3 0 0, rfl, by simp [penK], ?_⟩
  have em2 : mergeK [] (penK l3 0 0) = penK l3 0 0 := by
    unfold mergeK penK
    simp only [List.foldl_cons, List.foldl_nil]
    have s2 : putK [((Sum.inr ("cells" : Str) : Key), V.ref l3)] (Sum.inr ("at" : Str)) (V.int 0) = [((Sum.inr ("cells" : Str) : Key), V.ref l3), (Sum.inr ("at" : Str), V.int 0)] := putK_new _ (by rw [valV_neg nCA, valV_nil])
    rw [putK_new _ valV_nil, List.nil_append, s2, putK_new _ (by rw [valV_neg nCL, valV_neg nAL, valV_nil])]
    rfl
  rw [em2]
  have ks : Keep [d] H3 (upd H3 d (.dK (penK l3 0 0))) := Keep.set
  have es : (upd H3 d (.dK (penK l3 0 0))) d = some (.dK (penK l3 0 0)) := upd_same
  have hne : l3 ≠ d := (ne_of_none (k2 _ _ nin0 e1) n3).symm
  exact q d l3 _ nd ((k1.trans k2).free nin0 n3) ((k1.trans (k2.trans k3)).past ks nd) ⟨ms, 0, 0, ⟨es, ks _ _ (nin1 hne) e3, by omega, Int.le_refl _, Int.le_refl _⟩, Int.le_refl _⟩
theorem cdiv_pos {i m : Int} (h1 : 1 ≤ m) (h2 : m ≤ 1000) : CDiv i m := by
  unfold CDiv
  constructor <;> omega
theorem dp_ints {K : PySem.W.Frag} {H : Hp} : ∀ (is : List Int), ∃ ds, DpAll K H (is.map V.int) ds ∧ ds.length = is.length ∧ PyData.canLayAll0 ds = true ∧ PyData.depthAll ds ≤ 0
  | [] => ⟨[], .nil, rfl, rfl, by simp [PyData.depthAll]⟩
  | i :: is => by
    obtain ⟨ds, h1, h2, h3, h4⟩ := dp_ints is
    refine ⟨_ :: ds, .cons (.int i) h1, by simp [h2], by simp [PyData.canLayAll0, PyData.canLay0, h3], ?_⟩
    simp [PyData.depthAll, PyData.depth] at *
    omega
theorem ne_nil_ints {K : PySem.W.Frag} {H : Hp} {a b : Addr} {is : List Int} {Q : VK} (h : H a = some (.lst (is.map V.int))) (e : H b = some (.lst [])) (q : Q (.bl (!decide (is = []))) H) : uEq K true (.ref a) (.ref b) H Q := by
  obtain ⟨ds, h1, h2, h3, h4⟩ := dp_ints (K := K) (H := H) is
  refine .inr ⟨_, _, .lst (lst_sq h) h1, .lst (lst_sq e) .nil, ?_, by decide +kernel, ?_⟩
  · unfold SeqAt.shaped
    rw [Bool.and_eq_true_iff]
    refine ⟨by simp [PyData.canLay0, h3], decide_eq_true ?_⟩
    simp [PyData.depth]
    omega
  · rw [if_pos rfl]
    cases is with
    | nil =>
      cases ds with
      | nil => exact q
      | cons _ _ => simp at h2
    | cons s ss =>
      cases ds with
      | nil => simp at h2
      | cons _ _ => exact q
def spDraw : Sp := fun vs H Q _ => ∃ (d c : Addr) (m : Int) (n : Nat), vs = [.ref d, .int m] ∧ 1 ≤ m ∧ m ≤ 1000 ∧ n < 1000000 ∧ PenOk H d c n ∧ ∀ v H', Keep [d] H H' → PenOk H' d c (n + 1) → 0 ≤ v → v < m → Q (.int v) H'
theorem rd_draw (K : PySem.W.Frag) : ∀ vs H Q E, spDraw vs H Q E → run (t__law_draw K) (L2.start N__law_draw vs) H Q := by
  rintro _ H Q _ ⟨d, c, m, n, rfl, m1, m2, hn, ⟨cells, at', lf, p, hat⟩, q⟩
  show run (t__law_draw K) [some (.ref d), some (.int m), none, none, none, none] H Q
  have mod : ∀ x : Int, 0 ≤ x % m ∧ x % m < m := fun x => ⟨Int.emod_nonneg x (by omega), Int.emod_lt_of_pos x (by omega)⟩
  have a0 := p.a0
  have small : -(2 ^ 64) < at' ∧ at' < 2 ^ 64 := by omega
  have last : ∀ (H1 : Hp) (lf : Int) (cell : Int) (y2 y5 : Option V), Keep [d] H H1 → Pen H1 d c cells (at' + 1) lf → t__law_draw_r1 K { nx := fun x H' => Q .non H', rt := Q } [some (.ref d), some (.int m), y2, some (.int at'), some (.int cell), y5] H1 := fun H1 lf cell y2 y5 k1 p1 => by
    unfold t__law_draw_r1
    walk_at "sx"
    refine ⟨by decide, cmul_right (by decide), cmul_small (by decide), cmul_right small, cmul_small (by decide), by decide, cmul_right (by decide), ⟨by decide, by decide⟩, by decide, ⟨by decide, by decide⟩, by omega, ?_⟩
    exact q _ H1 k1 ⟨cells, _, lf, p1, by omega⟩ (mod _).1 (mod _).2
  have hc : ∀ H1, Pen H1 d c cells (at' + 1) lf → Keep [d] H H1 → ∀ (cell : Int) (y2 y5 : Option V), True := fun _ _ _ _ _ _ => trivial
  unfold t__law_draw
  walk_at "sx"
  refine g_left p ?_
  walk_at "sx"
  split
  · refine g_left p ?_
    walk_at "sx"
    refine ⟨by omega, g_left p ?_⟩
    walk_at "sx"
    refine ⟨cdiv_pos m1 m2, g_putLeft p (Int.ediv_nonneg p.l0 (by omega)) fun H1 k1 p1 => ?_⟩
    walk_at "sx"
    exact q _ H1 k1 ⟨cells, _, _, p1, by omega⟩ (mod _).1 (mod _).2
  · unfold t__law_draw_r2
    walk_at "sx"
    refine g_at p ?_
    walk_at "sx"
    refine g_putAt p (by omega) fun H1 k1 p1 => ?_
    walk_at "sx"
    refine g_cells p1 ⟨by walk_at "sz", fun e H2 n2 k2 e2 => ?_⟩
    have p2 := p1.keep k2
    have k12 : Keep [d] H H2 := k1.trans k2.all
    refine ne_nil_ints p2.c e2 ?_
    by_cases hc : cells = []
    · rw [decide_eq_true hc]
      walk_at "sx"
      refine ⟨⟨by decide, by decide, by decide⟩, ?_⟩
      rw [if_neg (by decide)]
      exact last H2 lf 0 none none k12 p2
    · rw [decide_eq_false hc]
      walk_at "sx"
      have hl : 0 < cells.length := List.length_pos_iff.mpr hc
      refine g_cells p2 (g_cells p2 (g_lenL p2.c ?_))
      walk_at "sx"
      rw [List.length_map]
      have x1 := Int.emod_nonneg at' (show (cells.length : Int) ≠ 0 by omega)
      have x2 := Int.emod_lt_of_pos at' (show 0 < (cells.length : Int) by omega)
      have hj : (at' % (cells.length : Int)).toNat < cells.length := by omega
      refine ⟨by omega, g_ixL p2.c (at_lit (v := .int (cells[(at' % (cells.length : Int)).toNat])) _ (show at' % (cells.length : Int) = ((at' % (cells.length : Int)).toNat : Int) by omega) (by rw [List.getElem?_map, List.getElem?_eq_getElem hj]; rfl)) ?_⟩
      generalize cells[(at' % (cells.length : Int)).toNat] = cell
      walk_at "sx"
      refine ⟨⟨by decide, by decide, by decide⟩, ?_⟩
      split
      · rename_i hge
        refine g_cells p2 (g_lenL p2.c ?_)
        walk_at "sx"
        split
        · refine ⟨⟨by decide, by decide, by decide⟩, cdiv_pos m1 m2, g_putLeft p2 (Int.ediv_nonneg (by omega) (by omega)) fun H3 k3 p3 => ?_⟩
          walk_at "sx"
          refine ⟨⟨by decide, by decide, by decide⟩, by omega, q _ H3 (k12.trans k3) ⟨cells, _, _, p3, by omega⟩ (mod _).1 (mod _).2⟩
        · exact last H2 lf cell none none k12 p2
      · exact last H2 lf cell none none k12 p2
def minB (o : Option Int) : Prop := ∀ i, o = some i → 1 ≤ i ∧ i ≤ 60
def spMinutes : Sp := fun vs H Q _ => ∃ (d c : Addr) (n : Nat), vs = [.ref d] ∧ n < 900000 ∧ PenOk H d c n ∧ ∀ l H' (a b : Option Int), H l = none → Keep [d] H H' → PenOk H' d c (n + 10) → H' l = some (.lst [mV a, mV b]) → minB a → minB b → Q (.ref l) H'
theorem rd_minutes (K : PySem.W.Frag) : ∀ vs H Q E, spMinutes vs H Q E → run (t__law_minutes K spDraw) (L2.start N__law_minutes vs) H Q := by
  rintro _ H Q _ ⟨d, c, n, rfl, hn, p, q⟩
  show run (t__law_minutes K spDraw) [some (.ref d), none, none, none] H Q
  unfold t__law_minutes
  walk_at "sx"
  refine g_CR1 (S := [d]) p.there (by decide) (by decide) ⟨fun j H' acc => ∃ is : List Int, acc = is.map V.int ∧ is.length = j ∧ (∀ i ∈ is, 1 ≤ i ∧ i ≤ 60) ∧ PenOk H' d c (n + 3 * j), ?_, ?_, ?_⟩
  · intro D H2 nD k2
    exact ⟨[], rfl, rfl, fun _ h => (List.not_mem_nil h).elim, p.keep k2⟩
  · rintro D j H2 acc R R0 nD hj k2 eD ⟨is, rfl, l2, o2, p2⟩ hR _
    have hj : j < 2 := hj
    obtain ⟨n1, n2⟩ := p.new nD
    walk_at "sx"
    refine ⟨d, c, 7, _, rfl, by decide, by decide, by omega, p2, fun v1 H3 k3 p3 a1 b1 => ?_⟩
    walk_at "sx"
    refine ⟨d, c, 60, _, rfl, by decide, by decide, by omega, p3, fun v2 H4 k4 p4 a2 b2 => ?_⟩
    walk_at "sx"
    refine ⟨by walk_at "sz", fun l5 H5 n5 k5 e5 => ?_⟩
    refine ⟨d, c, 2, _, rfl, by decide, by decide, by omega, p4.keep k5, fun v3 H6 k6 p6 a3 b3 => ?_⟩
    have e6 := k6 _ _ (nin1 (p4.new n5).1.symm) e5
    obtain ⟨w, hw, w1, w2⟩ : ∃ w : Int, atI [V.int (1 + v1), V.int (1 + v2)] v3 = some (.int w) ∧ 1 ≤ w ∧ w ≤ 60 := by
      have : v3 = 0 ∨ v3 = 1 := by omega
      rcases this with rfl | rfl
      · exact ⟨_, rfl, by omega, by omega⟩
      · exact ⟨_, rfl, by omega, by omega⟩
    refine g_ixL e6 hw (hR _ _ (k3.trans (k4.trans (k5.all.trans k6))) (by rw [List.length_map]; exact len_lt (by omega)) fun H7 k7 => ⟨is ++ [w], by rw [List.map_append]; rfl, by rw [List.length_append, l2]; rfl, fun i hi => ?_, (p6.keepL k7 n1 n2).mono (by omega)⟩)
    rcases List.mem_append.mp hi with hi | hi
    · exact o2 i hi
    · rw [List.mem_singleton.mp hi]; exact ⟨w1, w2⟩
  · rintro D H2 acc nD k2 eD ⟨is, rfl, l2, o2, p2⟩
    have l2 : is.length = 2 := l2
    obtain ⟨n1, n2⟩ := p.new nD
    walk_at "sx"
    refine ⟨d, c, 6, _, rfl, by decide, by decide, by show n + 3 * 2 < _; omega, p2, fun lot H3 k3 p3 a1 b1 => ?_⟩
    walk_at "sx"
    have e3 := k3 _ _ (nin1 n1.symm) eD
    have p3 : PenOk H3 d c (n + 3 * 2 + 1) := p3
    obtain ⟨x, y, rfl⟩ : ∃ x y, is = [x, y] := by
      match is, l2 with
      | [x, y], _ => exact ⟨x, y, rfl⟩
    have hx := o2 x (by simp)
    have hy := o2 y (by simp)
    have bx : minB (some x) := fun i e => by cases e; exact hx
    have by' : minB (some y) := fun i e => by cases e; exact hy
    have bn : minB none := fun i e => by cases e
    split
    · have : lot = 0 ∨ lot = 1 := by omega
      rcases this with rfl | rfl
      · refine g_setL (k := 0) e3 rfl fun H4 k4 e4 => ?_
        unfold t__law_minutes_r1
        walk_at "sx"
        exact q D H4 none (some y) nD ((k2.trans k3).past k4 nD) ((p3.keepL k4 n1 n2).mono (by omega)) e4 bn by'
      · refine g_setL (k := 1) e3 rfl fun H4 k4 e4 => ?_
        unfold t__law_minutes_r1
        walk_at "sx"
        exact q D H4 (some x) none nD ((k2.trans k3).past k4 nD) ((p3.keepL k4 n1 n2).mono (by omega)) e4 bx bn
    · unfold t__law_minutes_r1
      walk_at "sx"
      exact q D H3 (some x) (some y) nD (k2.trans k3) (p3.mono (by omega)) e3 bx by'
theorem pop_perm : ∀ (l : List Str) (i : Nat) (h : i < l.length), (l[i] :: l.eraseIdx i).Perm l
  | [], i, h => by simp at h
  | a :: l, 0, _ => List.Perm.refl _
  | a :: l, i + 1, h => (List.Perm.swap a (l[i]'(by simpa using h)) (l.eraseIdx i)).trans ((pop_perm l i (by simpa using h)).cons a)
def spSome : Sp := fun vs H Q _ => ∃ (d c ls : Addr) (n m : Nat) (ys : List Str), vs = [.ref d, .ref ls, .int (m : Nat)] ∧ n < 900000 ∧ PenOk H d c n ∧ H ls = some (.lst (ys.map V.str)) ∧ m ≤ ys.length ∧ ys.length ≤ 10 ∧
  ∀ l H' (zs : List Str), H l = none → Keep [d] H H' → PenOk H' d c (n + m) → H' l = some (.lst (zs.map V.str)) → zs.length = m → (∀ z ∈ zs, z ∈ ys) → (ys.Nodup → zs.Nodup) → Q (.ref l) H'
theorem rd_some (K : PySem.W.Frag) : ∀ vs H Q E, spSome vs H Q E → run (t__law_some K spDraw) (L2.start N__law_some vs) H Q := by
  rintro _ H Q _ ⟨d, c, ls, n, m, ys, rfl, hn, p, hls, hm, h10, q⟩
  show run (t__law_some K spDraw) [some (.ref d), some (.ref ls), some (.int (m : Nat)), none, none, none] H Q
  unfold t__law_some
  walk_at "sx"
  refine g_listL hls fun lf H1 n1 k1 e1 => ⟨by walk_at "sz", fun fd H2 n2 k2 e2 => ?_⟩
  walk_at "sx"
  have hne : lf ≠ fd := ne_of_none e1 n2
  obtain ⟨a1, a2⟩ := p.new n1
  obtain ⟨b1, b2⟩ := (p.keep k1).new n2
  refine g_FR1 (by omega) (by omega) ⟨fun i σ H' => ∃ (us zs : List Str) (y : Option V), σ = [some (.ref d), some (.ref ls), some (.int (m : Nat)), some (.ref lf), some (.ref fd), y] ∧ Keep [d, lf, fd] H2 H' ∧ PenOk H' d c (n + i) ∧ H' lf = some (.lst (us.map V.str)) ∧ us.length + i = ys.length ∧ (∀ u ∈ us, u ∈ ys) ∧ H' fd = some (.lst (zs.map V.str)) ∧ zs.length = i ∧ (∀ z ∈ zs, z ∈ ys) ∧ (zs ++ us).Perm ys,
    ⟨ys, [], _, rfl, Keep.refl _ _, (p.keep (k1.trans k2)).mono (by omega), k2 _ _ nin0 e1, by omega, fun _ h => h, e2, rfl, (fun _ h => (List.not_mem_nil h).elim), List.Perm.refl _⟩, ?_, ?_⟩
  · rintro i σ H3 hi ⟨us, zs, y, rfl, k3, p3, f3, l3, o3, g3, m3, q3, pm3⟩
    have hi' : i < m := by omega
    unfold t__law_some_b1
    walk_at "sx"
    refine ⟨.inl ⟨rfl, _, .inl (.inl g3)⟩, .inl ⟨rfl, _, .inl (.inl f3)⟩, g_lenL f3 ⟨d, c, _, _, rfl, by rw [List.length_map]; omega, by rw [List.length_map]; omega, by omega, p3, fun v H4 k4 p4 v0 v1 => ?_⟩⟩
    rw [List.length_map] at v1
    have f4 := k4 _ _ (nin1 a1.symm) f3
    have g4 := k4 _ _ (nin1 b1.symm) g3
    have hv : v.toNat < us.length := by omega
    refine g_popAt f4 (Int.toNat_of_nonneg v0).symm (by rw [List.length_map]; exact hv) (by rw [List.length_map]; omega) (y := .str us[v.toNat]) (by rw [List.getElem?_map, List.getElem?_eq_getElem hv]; rfl) fun H5 k5 e5 => ?_
    have g5 := k5 _ _ (nin1 hne.symm) g4
    refine g_append g5 (by rw [List.length_map]; exact len_lt (by omega)) fun H6 k6 e6 => ?_
    refine ⟨us.eraseIdx v.toNat, zs ++ [us[v.toNat]], _, rfl, k3.trans ((k4.wide (by simp)).trans ((k5.wide (by simp)).trans (k6.wide (by simp)))), ((p4.keepL k5 a1 a2).keepL k6 b1 b2), ?_, ?_, fun u hu => o3 u (List.mem_of_mem_eraseIdx hu), by rw [List.map_append]; exact e6, by rw [List.length_append, m3]; rfl, fun z hz => ?_, ?_⟩
    · rw [k6 _ _ (nin1 hne) e5]
      rw [List.eraseIdx_eq_take_drop_succ, List.eraseIdx_eq_take_drop_succ, List.map_append, List.map_take, List.map_drop]
    · rw [List.length_eraseIdx_of_lt hv]
      omega
    · rcases List.mem_append.mp hz with hz | hz
      · exact q3 z hz
      · rw [List.mem_singleton.mp hz]
        exact o3 _ (List.getElem_mem hv)
    · rw [List.append_assoc]
      exact ((pop_perm us v.toNat hv).append_left zs).trans pm3
  · rintro σ H3 ⟨us, zs, y, rfl, k3, p3, f3, l3, o3, g3, m3, q3, pm3⟩
    unfold t__law_some_r1
    walk_at "sx"
    have nf := k1.free nin0 n2
    refine q fd H3 zs nf (fun b o hb e => ?_) p3 g3 m3 q3 fun nd => (List.nodup_append.mp (pm3.nodup_iff.mpr nd)).1
    have hb' : b ≠ d := fun z => hb (List.mem_singleton.mpr z)
    refine k3 b o ?_ ((k1.trans k2) b o nin0 e)
    simp only [List.mem_cons, List.not_mem_nil, or_false, not_or]
    exact ⟨hb', ne_of_none e n1, ne_of_none e nf⟩


theorem g_tup {K : PySem.W.Frag} {p : Addr} {xs : List V} {n : Nat} {t : TGs} {σ : L2.St} {H : Hp} {Q : L2.St → Hp → Prop} (h : Tup H p xs) (l : xs.length = n) (q : t xs σ H Q) : gTup K n t (.ref p) σ H Q := ⟨p, xs, rfl, h.sq, l, q⟩
/-- a text of few small signs -/
def NmS (k : Nat) (y : Str) : Prop := y.length ≤ k ∧ ∀ ch ∈ cl y, ch < 200
theorem NmS.mono {k k' : Nat} {y : Str} (h : NmS k y) (l : k ≤ k') : NmS k' y := ⟨Nat.le_trans h.1 l, h.2⟩
instance (k : Nat) (y : Str) : Decidable (NmS k y) := by unfold NmS; infer_instance
theorem splitA : ∃ ws : List Str, Txt.split "free to at bare by full cut off on call done grade open" " " = ws ∧ ws.length = 13 ∧ ∀ w ∈ ws, NmS 8 w := ⟨_, rfl, by decide +kernel, by decide +kernel⟩
theorem splitB : ∃ ws : List Str, Txt.split "shut told passed none twice many busy sent held moved there stands drives" " " = ws ∧ ws.length = 13 ∧ ∀ w ∈ ws, NmS 8 w := ⟨_, rfl, by decide +kernel, by decide +kernel⟩
theorem cutS_le (z : Str) (lo hi : Option Int) : (cutS z lo hi).length ≤ z.length := by
  rw [cl_len, cl_cut, cl_len z, List.length_take, List.length_drop]
  omega
theorem Keep.freeD {H H' : Hp} {d c l : Addr} {n : Nat} (k : Keep [d] H H') (e : H' l = none) (p : PenOk H d c n) (p' : PenOk H' d c m) : H l = none := by
  by_cases h : l = d
  · obtain ⟨_, _, _, q, _⟩ := p'
    rw [h, q.d] at e
    cases e
  · exact k.free (nin1 h) e
theorem PenOk.neL {H : Hp} {d c l : Addr} {n : Nat} {xs : List V} (p : PenOk H d c n) (h : H l = some (.lst xs)) : l ≠ d := fun z => by
  obtain ⟨_, _, _, q, _⟩ := p
  rw [z, q.d] at h
  cases h
theorem cutS_ch {z : Str} {lo hi : Option Int} (h : ∀ ch ∈ cl z, ch < 200) : ∀ ch ∈ cl (cutS z lo hi), ch < 200 := fun ch hc => by
  rw [cl_cut] at hc
  exact h ch (List.mem_of_mem_drop (List.mem_of_mem_take hc))
def OddV (v : Int) : Prop := v = 1 ∨ v = 3 ∨ v = 5 ∨ v = 7 ∨ v = 9 ∨ v = 11 ∨ v = 15 ∨ v = 17
theorem OddV.le {v : Int} (h : OddV v) : 0 ≤ v ∧ v ≤ 17 := by unfold OddV at h; omega
theorem OddV.apart {v bg : Int} {m a b : Nat} (h : OddV v) (hb : 0 ≤ bg) (m10 : m ≤ 10) (hab : a < b) (hbm : b < m) (e : ((bg + v * (a : Int)) % 26).toNat = ((bg + v * (b : Int)) % 26).toNat) : False := by
  have p1 := Int.emod_nonneg (bg + v * (a : Int)) (show (26 : Int) ≠ 0 by decide)
  have p2 := Int.emod_nonneg (bg + v * (b : Int)) (show (26 : Int) ≠ 0 by decide)
  have e2 : (bg + v * (a : Int)) % 26 = (bg + v * (b : Int)) % 26 := by omega
  rcases h with rfl | rfl | rfl | rfl | rfl | rfl | rfl | rfl <;> omega
theorem nodup_of {β : Type} {f : Nat → β} {g : Str → β} {m : Nat} : ∀ {ys : List Str}, EI (fun y (k : Nat) => g y = f k) ys (List.range m) → (∀ a b, a < b → b < m → f a ≠ f b) → ys.Nodup := fun {ys} h inj => by
  rw [List.Nodup, List.pairwise_iff_getElem]
  intro i j hi hj hij e
  have hl := h.length
  rw [List.length_range] at hl
  obtain ⟨y1, x1, r1⟩ := ei_get h (r := i) (i := i) (by rw [List.getElem?_range (by omega)])
  obtain ⟨y2, x2, r2⟩ := ei_get h (r := j) (i := j) (by rw [List.getElem?_range (by omega)])
  rw [List.getElem?_eq_getElem hi] at x1
  rw [List.getElem?_eq_getElem hj] at x2
  cases x1
  cases x2
  exact inj i j hij (by omega) (r1.symm.trans ((congrArg g e).trans r2))
theorem nodup_getD {ws : List Str} (nd : ws.Nodup) {a b : Nat} (ha : a < ws.length) (hb : b < ws.length) (e : ws.getD a "" = ws.getD b "") : a = b := by
  rw [List.getD_eq_getElem?_getD, List.getD_eq_getElem?_getD, List.getElem?_eq_getElem ha, List.getElem?_eq_getElem hb] at e
  exact (List.getElem_inj nd).mp e
theorem sgn_one {a b : Nat} (e : sgn a = sgn b) (ha : a < 36 := by omega) (hb : b < 36 := by omega) : a = b := by
  unfold sgn at e
  split at e <;> split at e <;> omega
theorem splitN : (Txt.split "free to at bare by full cut off on call done grade open" " " ++ Txt.split "shut told passed none twice many busy sent held moved there stands drives" " ").Nodup := by decide +kernel
theorem sgn_okN {i : Int} (h1 : 0 ≤ i) (h2 : i < 36) : ∃ cc : Nat, atI (cl "abcdefghijklmnopqrstuvwxyz0123456789") i = some cc ∧ cc < 200 ∧ cc = sgn i.toNat := ⟨_, at_lit i.toNat (by omega) (sgn_at i.toNat (by omega)), by unfold sgn; split <;> omega, rfl⟩
def spNamesH : Sp := fun vs H Q _ => ∃ (d c : Addr) (n m : Nat), vs = [.ref d, .int (m : Nat)] ∧ n < 800000 ∧ PenOk H d c n ∧ m ≤ 10 ∧
  ∀ l H' (ys : List Str), H l = none → Keep [d] H H' → PenOk H' d c (n + 30) → H' l = some (.lst (ys.map V.str)) → ys.length = m → (∀ y ∈ ys, NmS 30 y) → ys.Nodup → Q (.ref l) H'
theorem e36h {P : Prop} [Decidable P] : ∃ w : Int, (atI [V.int 36, V.int 26] (if P then 1 else 0) = some (.int w)) ∧ (w = 26 ∨ w = 36) := by
  by_cases h : P
  · rw [if_pos h]
    exact ⟨26, rfl, .inl rfl⟩
  · rw [if_neg h]
    exact ⟨36, rfl, .inr rfl⟩
theorem sgn_ok {i : Int} (h1 : 0 ≤ i) (h2 : i < 36) : ∃ cc : Nat, atI (cl "abcdefghijklmnopqrstuvwxyz0123456789") i = some cc ∧ cc < 200 := ⟨_, at_lit i.toNat (by omega) (sgn_at i.toNat (by omega)), by unfold sgn; split <;> omega⟩
theorem rd_namesH (K : PySem.W.Frag) : ∀ vs H Q E, spNamesH vs H Q E → run (t__law_names K spDraw) (L2.start N__law_names vs) H Q := by
  rintro _ H Q _ ⟨d, c, n, m, rfl, hn, p, m10, q⟩
  show run (t__law_names K spDraw) [some (.ref d), some (.int (m : Nat)), none, none, none, none, none, none, none, none, none, none, none] H Q
  unfold t__law_names
  walk_at "sx"
  refine ⟨d, c, 8, n, rfl, by decide, by decide, by omega, p, fun sz H1 k1 p1 s0 s1 => ?_⟩
  walk_at "sx"
  obtain ⟨size, rfl⟩ : ∃ k : Nat, sz = (k : Int) := ⟨sz.toNat, by omega⟩
  refine ⟨⟨_, rfl⟩, g_CR1 (S := [d]) p1.there (by omega) (by omega) ⟨fun i H' acc => ∃ cs : List Nat, acc = cs.map (fun c => V.str ⟨#[c]⟩) ∧ cs.length = i ∧ (∀ ch ∈ cs, ch < 200) ∧ PenOk H' d c (n + 1 + i), ?_, ?_, ?_⟩⟩
  · intro D H2 _ k2
    exact ⟨[], rfl, rfl, fun _ h => (List.not_mem_nil h).elim, p1.keep k2⟩
  · rintro D i H2 acc R R0 nD hi k2 eD ⟨cs, rfl, hcl, hcs, p2⟩ hR _
    have hi' : i < 8 := by omega
    obtain ⟨n1, n2⟩ := p1.new nD
    walk_at "sx"
    refine ⟨by walk_at "sz", fun l3 H3 n3 k3 e3 => g_eq rfl ?_⟩
    walk_at "sx"
    obtain ⟨w, hw, ew⟩ := e36h (P := (i : Int) = 0)
    refine g_ixL e3 hw ?_
    walk_at "sx"
    refine ⟨d, c, w, _, rfl, by omega, by omega, by omega, p2.keep k3, fun v H4 k4 p4 v0 v1 => ?_⟩
    obtain ⟨cc, hcc, hc2⟩ := sgn_ok v0 (by omega)
    refine g_ixS (by decide) hcc (hR _ _ (k3.all.trans k4) (by rw [List.length_map]; exact len_lt (by omega)) fun H5 k5 => ⟨cs ++ [cc], by rw [List.map_append]; rfl, by simp [hcl], fun ch hch => (List.mem_append.mp hch).elim (hcs ch) fun h => by rw [List.mem_singleton.mp h]; exact hc2, (p4.keepL k5 n1 n2).mono (by omega)⟩)
  · rintro D H2 acc nD k2 eD ⟨cs, rfl, hcl, hcs, p2⟩
    rw [Int.toNat_natCast] at hcl p2
    refine ⟨"", D, cs.map (fun c => ⟨#[c]⟩), rfl, rfl, .inl (lst_sq (by rw [eD, List.map_map]; rfl)), ?_, ?_⟩
    · have e : ((cs.map fun c => (⟨#[c]⟩ : Str)).map (·.length)).sum = cs.length := by
        clear hcl eD hcs
        induction cs with
        | nil => rfl
        | cons a r ih => 
          simp only [List.map_cons, List.sum_cons, List.length_cons, ih]
          show 1 + r.length = r.length + 1
          omega
      rw [e]
      show cs.length + (cs.map fun c => (⟨#[c]⟩ : Str)).length * 0 ≤ 16777216
      omega
    have hbl : (Txt.join "" (cs.map fun c => (⟨#[c]⟩ : Str))).length ≤ 8 := by
      rw [cl_len, cl_join0, List.map_map]
      have : (cl ∘ fun c => (⟨#[c]⟩ : Str)) = fun c => [c] := rfl
      rw [this]
      have f1 : ∀ xs : List Nat, (xs.map fun c => [c]).flatten = xs := fun xs => by
        induction xs with
        | nil => rfl
        | cons a r ih => rw [List.map_cons, List.flatten_cons, ih]; rfl
      rw [f1]
      omega
    have hbc : ∀ ch ∈ cl (Txt.join "" (cs.map fun c => (⟨#[c]⟩ : Str))), ch < 200 := by
      rw [cl_join0, List.map_map]
      have : (cl ∘ fun c => (⟨#[c]⟩ : Str)) = fun c => [c] := rfl
      rw [this]
      intro ch hch
      obtain ⟨l, hl, h2⟩ := List.mem_flatten.mp hch
      obtain ⟨c', hc', rfl⟩ := List.mem_map.mp hl
      rw [List.mem_singleton.mp h2]
      exact hcs c' hc'
    generalize Txt.join "" (cs.map fun c => (⟨#[c]⟩ : Str)) = base at hbl hbc
    have hbL : base.length ≤ sizeLine := len_le (by omega)
    walk_at "sx"
    refine ⟨d, c, _, _, rfl, by omega, by omega, by omega, p2, fun at' H3 k3 p3 a0 a1 => ?_⟩
    walk_at "sx"
    refine ⟨d, c, _, _, rfl, by decide, by decide, by omega, p3, fun bg H4 k4 p4 b0 b1 => ⟨by walk_at "sz", fun l5 H5 n5 k5 e5 => ⟨d, c, _, _, rfl, by decide, by decide, by omega, p4.keep k5, fun si H6 k6 p6 s0' s1' => ?_⟩⟩⟩
    have e6 := k6 _ _ (nin1 (p4.new n5).1.symm) e5
    obtain ⟨v, hv, mv⟩ : ∃ v, atI [V.int 1, V.int 3, V.int 5, V.int 7, V.int 9, V.int 11, V.int 15, V.int 17] si = some (.int v) ∧ OddV v := by
      have : si = 0 ∨ si = 1 ∨ si = 2 ∨ si = 3 ∨ si = 4 ∨ si = 5 ∨ si = 6 ∨ si = 7 := by omega
      rcases this with rfl | rfl | rfl | rfl | rfl | rfl | rfl | rfl <;> exact ⟨_, rfl, by unfold OddV; decide⟩
    have mv2 := mv.le
    refine g_ixL e6 hv ⟨d, c, _, _, rfl, by decide, by decide, by omega, p6, fun lot H7 k7 p7 l0 l1 => ⟨by walk_at "sz", fun tp H8 n8 k8 t8 => g_tup t8 rfl ?_⟩⟩
    walk_at "sx"
    refine ⟨_, _, rfl, _, _, rfl, _, _, rfl, rfl, ?_⟩
    obtain ⟨wa, ea, la, oa⟩ := splitA
    obtain ⟨wb, eb, lb, ob⟩ := splitB
    refine ⟨⟨_, rfl⟩, _, _, rfl, rfl, by decide, by decide +kernel, fun w1 H9 n9 k9 f9 => ⟨⟨_, rfl⟩, _, _, rfl, rfl, by decide, by decide +kernel, fun w2 HA nA kA fA => ?_⟩⟩
    rw [ea] at f9
    rw [eb] at fA
    refine g_addL (kA _ _ nin0 f9) fA (by rw [List.length_map, List.length_map]; exact len_le (by omega)) fun w3 HB nB kB fB => ?_
    rw [← List.map_append] at fB
    have nw : (wa ++ wb).Nodup := by rw [← ea, ← eb]; exact splitN
    have hwl : (wa ++ wb).length = 26 := by rw [List.length_append, la, lb]
    have hwo : ∀ w ∈ wa ++ wb, NmS 8 w := fun w hw => (List.mem_append.mp hw).elim (oa w) (ob w)
    generalize wa ++ wb = ws at fB hwl hwo nw
    have k8B := k8.trans (k9.trans (kA.trans kB))
    have pB := p7.keep k8B
    have kH : Keep [d] H HB := k1.trans ((k2.trans (k3.trans (k4.trans (k5.all.trans (k6.trans (k7.trans k8B.all)))))))
    refine ⟨d, c, _, _, rfl, by decide, by decide, by omega, pB, fun x HC kC pC x0 x1 => g_eq rfl ?_⟩
    walk_at "sx"
    have kHC := kH.trans kC
    split
    · have fC' : HC w3 = some (.lst (ws.map V.str)) := kC _ _ (nin1 (pB.neL fB)) fB
      refine g_CR1 (S := []) (fun _ h => (List.not_mem_nil h).elim) (by omega) (by omega) ⟨fun i H' acc => ∃ ys : List Str, acc = ys.map V.str ∧ ys.length = i ∧ (∀ y ∈ ys, NmS 30 y) ∧ EI (fun y (k : Nat) => y = ws.getD ((bg + v * (k : Int)) % 26).toNat "") ys (List.range i), fun _ _ _ _ => ⟨[], rfl, rfl, fun _ h => (List.not_mem_nil h).elim, .nil⟩, ?_, ?_⟩
      · rintro D' i HD acc R R0 nD' hi kD eD' ⟨ys, rfl, ly, oy, ey⟩ hR _
        walk_at "sx"
        refine ⟨cmul_small (by omega), by decide, ?_⟩
        have q1 := Int.emod_nonneg (bg + v * (i : Int)) (show (26 : Int) ≠ 0 by decide)
        have q2 := Int.emod_lt_of_pos (bg + v * (i : Int)) (show (0 : Int) < 26 by decide)
        have hsnoc : ∀ z, z = ws.getD ((bg + v * (i : Int)) % 26).toNat "" → EI (fun y (k : Nat) => y = ws.getD ((bg + v * (k : Int)) % 26).toNat "") (ys ++ [z]) (List.range (i + 1)) := fun z hz => by rw [List.range_succ]; exact ei_snoc (R := fun y (k : Nat) => y = ws.getD ((bg + v * (k : Int)) % 26).toNat "") hz ey
        generalize (bg + v * (i : Int)) % 26 = j at q1 q2 hsnoc
        have hj : j.toNat < ws.length := by omega
        refine g_ixL (kD _ _ nin0 fC') (at_lit (v := .str ws[j.toNat]) j.toNat (by omega) (by rw [List.getElem?_map, List.getElem?_eq_getElem hj]; rfl)) (hR _ _ (Keep.refl _ _) (by rw [List.length_map]; exact len_lt (by omega)) fun H5 k5 => ⟨ys ++ [ws[j.toNat]], by rw [List.map_append]; rfl, by rw [List.length_append, ly]; rfl, fun y hy => ?_, hsnoc _ (by rw [List.getD_eq_getElem?_getD, List.getElem?_eq_getElem hj]; rfl)⟩)
        rcases List.mem_append.mp hy with hy | hy
        · exact oy y hy
        · rw [List.mem_singleton.mp hy]
          exact (hwo _ (List.getElem_mem hj)).mono (by decide)
      · rintro D' HD acc nD' kD eD' ⟨ys, rfl, ly, oy, ey⟩
        rw [Int.toNat_natCast] at ey
        exact q D' HD ys (kHC.freeD nD' p pC) (kHC.trans kD.all) ((pC.keep kD).mono (by omega)) eD' (by omega) oy (nodup_of (g := id) ey fun a b hab hb e => mv.apart b0 m10 hab hb ((nodup_getD nw (by rw [hwl]; have := Int.emod_lt_of_pos (bg + v * (a : Int)) (show (0 : Int) < 26 by decide); have := Int.emod_nonneg (bg + v * (a : Int)) (show (26 : Int) ≠ 0 by decide); omega) (by rw [hwl]; have := Int.emod_lt_of_pos (bg + v * (b : Int)) (show (0 : Int) < 26 by decide); have := Int.emod_nonneg (bg + v * (b : Int)) (show (26 : Int) ≠ 0 by decide); omega) e)))
    · unfold t__law_names_r2
      walk_at "sx"
      refine ⟨by walk_at "sz", fun fl HD nD' kD eD' => ?_⟩
      walk_at "sx"
      obtain ⟨u1, u2⟩ := pC.new nD'
      refine g_FR1 (by omega) (by omega) ⟨fun i σ H' => ∃ (y4 y12 : Option V) (ys : List Str), σ = [some (.ref d), some (.int (m : Nat)), some (.str (Str.ofString "abcdefghijklmnopqrstuvwxyz0123456789")), some (.int (size : Nat)), y4, some (.str base), some (.int at'), some (.int bg), some (.int v), some (.int lot), some (.ref w3), some (.ref fl), y12] ∧ Keep [fl] HD H' ∧ H' fl = some (.lst (ys.map V.str)) ∧ ys.length = i ∧ (∀ y ∈ ys, NmS 30 y) ∧ EI (fun y (k : Nat) => (cl y)[(cutS base none (some at')).length]? = some (sgn ((bg + v * (k : Int)) % 26).toNat)) ys (List.range i),
        ⟨_, _, [], rfl, Keep.refl _ _, eD', rfl, fun _ h => (List.not_mem_nil h).elim, .nil⟩, ?_, ?_⟩
      · rintro i σ HE hi ⟨y4, y12, ys, rfl, kE, fE, ly, oy, ey⟩
        unfold t__law_names_b1
        walk_at "sx"
        refine ⟨by omega, by walk_at "sz", fun l2 HF nF kF eF => ?_⟩
        obtain ⟨w, hw⟩ : ∃ w : Int, atI [V.int 8, V.int ((i : Int) % ((size : Int) - at' + 1))] lot = some (.int w) := by
          have : lot = 0 ∨ lot = 1 := by omega
          rcases this with rfl | rfl
          · exact ⟨_, rfl⟩
          · exact ⟨_, rfl⟩
        refine g_ixL eF hw ?_
        walk_at "sx"
        refine g_slS hbL ?_
        have lt := cutS_le base (some at') (some (at' + w))
        have lt2 := cutS_ch (lo := some at') (hi := some (at' + w)) hbc
        generalize cutS base (some at') (some (at' + w)) = tail at lt lt2
        walk_at "sx"
        have q1 := Int.emod_nonneg (bg + v * (i : Int)) (show (26 : Int) ≠ 0 by decide)
        have q2 := Int.emod_lt_of_pos (bg + v * (i : Int)) (show (0 : Int) < 26 by decide)
        obtain ⟨cc, hcc, hc2, hc3⟩ := sgn_okN q1 (show (bg + v * (i : Int)) % 26 < 36 by omega)
        have fF := kF _ _ nin0 fE
        have lh := cutS_le base none (some at')
        have lh2 := cutS_ch (lo := none) (hi := some at') hbc
        refine ⟨.inl ⟨rfl, _, .inl (.inl fF)⟩, g_slS hbL ?_⟩
        generalize cutS base none (some at') = head at lh lh2 ey ⊢
        refine ⟨cmul_small (by omega), by decide, g_ixS (by decide) hcc ?_⟩
        have one : (⟨#[cc]⟩ : Str).length = 1 := rfl
        have two : (head ++ (⟨#[cc]⟩ : Str)).length = head.length + 1 := by rw [cl_len, cl_app, List.length_append, ← cl_len]; rfl
        have thr : (head ++ (⟨#[cc]⟩ : Str) ++ tail).length = head.length + 1 + tail.length := by rw [cl_len, cl_app, List.length_append, ← cl_len, ← cl_len, two]
        walk_at "sx"
        refine ⟨by rw [one]; exact len_le (by omega), by rw [two]; exact len_le (by omega), g_append fF (by rw [List.length_map]; exact len_lt (by omega)) fun HG kG eG => ⟨_, _, ys ++ [head ++ (⟨#[cc]⟩ : Str) ++ tail], rfl, kE.trans (kF.all.trans kG), by rw [List.map_append]; exact eG, by rw [List.length_append, ly]; rfl, fun y hy => ?_, by
          rw [List.range_succ]
          refine ei_snoc (R := fun y (k : Nat) => (cl y)[head.length]? = some (sgn ((bg + v * (k : Int)) % 26).toNat)) ?_ ey
          rw [cl_app, cl_app, List.append_assoc, List.getElem?_append_right (by rw [← cl_len]; exact Nat.le_refl _), ← cl_len, Nat.sub_self, ← hc3]
          rfl⟩⟩
        rcases List.mem_append.mp hy with hy | hy
        · exact oy y hy
        · rw [List.mem_singleton.mp hy]
          refine ⟨by rw [thr]; omega, fun ch hch => ?_⟩
          rw [cl_app, cl_app] at hch
          rcases List.mem_append.mp hch with h | h
          · rcases List.mem_append.mp h with h | h
            · exact lh2 ch h
            · have : ch ∈ [cc] := h
              rw [List.mem_singleton.mp this]
              exact hc2
          · exact lt2 ch h
      · rintro σ HE ⟨y4, y12, ys, rfl, kE, fE, ly, oy, ey⟩
        rw [Int.toNat_natCast] at ey
        unfold t__law_names_r1
        walk_at "sx"
        have nfl := kHC.freeD nD' p pC
        exact q fl HE ys nfl ((kHC.trans kD.all).past kE nfl) (((pC.keep kD).keepL kE u1 u2).mono (by omega)) fE (by omega) oy (nodup_of (g := fun y => (cl y)[(cutS base none (some at')).length]?) ey fun a b hab hb e => mv.apart b0 m10 hab hb (sgn_one (Option.some.inj e)))
structure TwOk (T : Tn) : Prop where
  p1 : 1 ≤ T.places.length
  p10 : T.places.length ≤ 10
  nm : ∀ y ∈ T.places, NmS 30 y
  r18 : T.roads.length ≤ 18
  rd : ∀ r ∈ T.roads, r.one ∈ T.places ∧ r.two ∈ T.places ∧ minB r.there ∧ minB r.back
  s5 : T.stands.length ≤ 5
  sp : ∀ y ∈ T.stands, y ∈ T.places
  re0 : 0 ≤ T.reach
  re1 : T.reach ≤ 121
  s1 : 1 ≤ T.stands.length
  nd : T.places.Nodup
  nds : T.stands.Nodup
def spTownH : Sp := fun vs H Q _ => ∃ (d c : Addr) (n : Nat), vs = [.ref d] ∧ n < 700000 ∧ PenOk H d c n ∧ ∀ p H' T, Keep [d] H H' → PenOk H' d c (n + 1000) → TnAt H' p T → TwOk T → Q (.ref p) H'
theorem g_unl {K : PySem.W.Frag} {p : Addr} {xs : List V} {n : Nat} {t : TGs} {σ : L2.St} {H : Hp} {Q : L2.St → Hp → Prop} (h : H p = some (.lst xs)) (l : xs.length = n) (q : t xs σ H Q) : gUnl K n t (.ref p) σ H Q := ⟨p, xs, rfl, lst_sq h, l, q⟩
theorem at3 {x : Int} {a b c : V} (h0 : 0 ≤ x) (h1 : x < 3) : ∃ v, atI [a, b, c] x = some v ∧ (v = a ∨ v = b ∨ v = c) := by
  have : x = 0 ∨ x = 1 ∨ x = 2 := by omega
  rcases this with rfl | rfl | rfl
  · exact ⟨_, rfl, .inl rfl⟩
  · exact ⟨_, rfl, .inr (.inl rfl)⟩
  · exact ⟨_, rfl, .inr (.inr rfl)⟩
theorem rd_townH (K : PySem.W.Frag) : ∀ vs H Q E, spTownH vs H Q E → run (t__law_town K spDraw spNamesH spMinutes spSome) (L2.start N__law_town vs) H Q := by
  rintro _ H Q _ ⟨d, c, n, rfl, hn, p, q⟩
  show run (t__law_town K spDraw spNamesH spMinutes spSome) [some (.ref d), none, none, none, none, none, none, none, none, none, none, none] H Q
  unfold t__law_town
  walk_at "sx"
  refine ⟨d, c, 10, n, rfl, by decide, by decide, by omega, p, fun v H1 k1 p1 v0 v1 => ?_⟩
  walk_at "sx"
  obtain ⟨m, hm⟩ : ∃ m : Nat, 1 + v = (m : Int) := ⟨(1 + v).toNat, by omega⟩
  rw [hm]
  have m1 : 1 ≤ m := by omega
  have m10 : m ≤ 10 := by omega
  refine ⟨d, c, _, m, rfl, by omega, p1, m10, fun pl H2 ys np k2 p2 e2 ly oy ndy => ?_⟩
  walk_at "sx"
  refine ⟨by walk_at "sz", fun rl H3 n3 k3 e3 => ?_⟩
  walk_at "sx"
  have p3 := p2.keep k3
  refine ⟨d, c, 3, _, rfl, by decide, by decide, by omega, p3, fun lot H4 k4 p4 l0 l1 => ?_⟩
  walk_at "sx"
  refine ⟨d, c, 19, _, rfl, by decide, by decide, by omega, p4, fun many H5 k5 p5 b0 b1 => ⟨by walk_at "sz", fun l6 H6 n6 k6 e6 => ?_⟩⟩
  walk_at "sx"
  obtain ⟨w, hw, w0, w1⟩ : ∃ w : Int, atI [V.int 0, V.int many] (if 1 < (m : Int) then 1 else 0) = some (.int w) ∧ 0 ≤ w ∧ w ≤ 18 := by
    split
    · exact ⟨_, rfl, by omega, by omega⟩
    · exact ⟨_, rfl, by omega, by omega⟩
  refine g_ixL e6 hw ?_
  have p6 := p5.keep k6
  have nrd : rl ≠ d := p3.neL e3
  have npd : pl ≠ d := p2.neL e2
  have npr : pl ≠ rl := ne_of_none e2 n3
  have e2' : H6 pl = some (.lst (ys.map V.str)) := k6 _ _ nin0 (k5 _ _ (nin1 npd) (k4 _ _ (nin1 npd) (k3 _ _ nin0 e2)))
  have e3' : H6 rl = some (.lst []) := k6 _ _ nin0 (k5 _ _ (nin1 nrd) (k4 _ _ (nin1 nrd) e3))
  have kH : Keep [d] H H6 := k1.trans (k2.trans (k3.all.trans (k4.trans (k5.trans k6.all))))
  have nrl : H rl = none := (k1.trans k2).freeD n3 p p2
  have crl : c ≠ rl := (p2.new n3).2
  refine g_FR1 (by omega) (by omega) ⟨fun i σ H' => ∃ (y5 y6 y7 y8 y9 : Option V) (vs : List V) (rs : List Rd), σ = [some (.ref d), some (.int (m : Nat)), some (.ref pl), some (.ref rl), some (.int lot), y5, y6, y7, y8, y9, none, none] ∧ Keep [d, rl] H6 H' ∧ PenOk H' d c (n + 40 + 20 * i) ∧ H' rl = some (.lst vs) ∧ RdsAt H' vs rs ∧ rs.length = i ∧ ∀ r ∈ rs, r.one ∈ ys ∧ r.two ∈ ys ∧ minB r.there ∧ minB r.back,
    ⟨_, _, _, _, _, [], [], rfl, Keep.refl _ _, p6.mono (by omega), e3', .nil, rfl, fun _ h => (List.not_mem_nil h).elim⟩, ?_, ?_⟩
  · rintro i σ H7 hi ⟨y5, y6, y7, y8, y9, vs, rs, rfl, k7, p7, f7, d7, l7, o7⟩
    have hi' : i < 18 := by omega
    have e7 : H7 pl = some (.lst (ys.map V.str)) := k7 _ _ (by simp [npd, npr]) e2'
    unfold t__law_town_b1
    walk_at "sx"
    refine ⟨by omega, d, c, _, _, rfl, by omega, by omega, by omega, p7, fun x H8 k8 p8 x0 x1 => ⟨by walk_at "sz", fun l9 H9 n9 k9 e9 => ?_⟩⟩
    have hmod : ∀ z : Int, 0 ≤ z % (m : Int) ∧ z % (m : Int) < m := fun z => ⟨Int.emod_nonneg z (by omega), Int.emod_lt_of_pos z (by omega)⟩
    obtain ⟨o, ho, o0, o1⟩ : ∃ o : Int, atI [V.int ((i : Int) % m), V.int 0, V.int x] lot = some (.int o) ∧ 0 ≤ o ∧ o < m := by
      obtain ⟨v, hv, hv'⟩ := at3 (a := V.int ((i : Int) % m)) (b := V.int 0) (c := V.int x) l0 l1
      rcases hv' with rfl | rfl | rfl
      · exact ⟨_, hv, (hmod _).1, (hmod _).2⟩
      · exact ⟨_, hv, by omega, by omega⟩
      · exact ⟨_, hv, x0, by omega⟩
    refine g_ixL e9 ho ?_
    walk_at "sx"
    have p9 := p8.keep k9
    have hmx : 1 ≤ (if (m : Int) - 1 > 1 then (m : Int) - 1 else 1) ∧ (if (m : Int) - 1 > 1 then (m : Int) - 1 else 1) ≤ 10 := by split <;> omega
    generalize (if (m : Int) - 1 > 1 then (m : Int) - 1 else 1) = mx at hmx
    refine ⟨by omega, d, c, _, _, rfl, by omega, by omega, by omega, p9, fun x2 HA kA pA z0 z1 => ?_⟩
    walk_at "sx"
    refine ⟨by walk_at "sz", fun lB HB nB kB eB => ?_⟩
    have q0 := Int.emod_nonneg (i : Int) (show mx ≠ 0 by omega)
    obtain ⟨v3, hv3, hv3'⟩ := at3 (a := V.int 1) (b := V.int (1 + (i : Int) % mx)) (c := V.int (1 + x2)) l0 l1
    obtain ⟨w2, rfl⟩ : ∃ w2 : Int, v3 = .int w2 := by
      rcases hv3' with rfl | rfl | rfl
      · exact ⟨_, rfl⟩
      · exact ⟨_, rfl⟩
      · exact ⟨_, rfl⟩
    refine g_ixL eB hv3 ?_
    walk_at "sx"
    obtain ⟨t0, t1⟩ := hmod (o + w2)
    generalize (o + w2) % (m : Int) = t at t0 t1
    have pB := pA.keep kB
    refine ⟨by omega, d, c, _, rfl, by omega, pB, fun lC HC ma mb nC kC pC eC ba bb => g_unl eC rfl ?_⟩
    walk_at "sx"
    refine ⟨_, _, rfl, _, _, rfl, rfl, ?_⟩
    have k7C : Keep [d] H7 HC := k8.trans (k9.all.trans (kA.trans (kB.all.trans kC)))
    have fC := k7C _ _ (nin1 nrd) f7
    have eplC := k7C _ _ (nin1 npd) e7
    have dC := d7.keep k7C p7.noTup
    have ho : o.toNat < ys.length := by omega
    have ht : t.toNat < ys.length := by omega
    walk_at "sx"
    refine ⟨.inl ⟨rfl, _, .inl (.inl fC)⟩, g_ixL eplC (at_lit (v := .str ys[o.toNat]) o.toNat (by omega) (by rw [List.getElem?_map, List.getElem?_eq_getElem ho]; rfl)) (g_ixL eplC (at_lit (v := .str ys[t.toNat]) t.toNat (by omega) (by rw [List.getElem?_map, List.getElem?_eq_getElem ht]; rfl)) ⟨by walk_at "sz", fun tp HD nD kD tD => ?_⟩)⟩
    have fD := kD _ _ nin0 fC
    refine g_append fD (by rw [d7.len]; exact len_lt (by omega)) fun HE kE fE => ?_
    have kk : Keep [d, rl] H7 HE := (k7C.wide (by simp)).trans (kD.all.trans (kE.wide (by simp)))
    refine ⟨_, _, _, _, _, _, rs ++ [⟨ys[o.toNat], ys[t.toNat], ma, mb⟩], rfl, k7.trans kk, ((pC.keep kD).keepL kE nrd.symm crl).mono (by omega), fE, ((dC.keep kD noTup0).keep kE (noTup1 fD)).snoc (r := ⟨ys[o.toNat], ys[t.toNat], ma, mb⟩) (tD.keep kE (noTup1 fD _ _ tD)), by rw [List.length_append, l7]; rfl, fun r hr => ?_⟩
    rcases List.mem_append.mp hr with hr | hr
    · exact o7 r hr
    · rw [List.mem_singleton.mp hr]
      exact ⟨List.getElem_mem ho, List.getElem_mem ht, ba, bb⟩
  · rintro σ H7 ⟨y5, y6, y7, y8, y9, vs, rs, rfl, k7, p7, f7, d7, l7, o7⟩
    have e7 : H7 pl = some (.lst (ys.map V.str)) := k7 _ _ (by simp [npd, npr]) e2'
    have l7' : rs.length ≤ 18 := by omega
    have p7 : PenOk H7 d c (n + 400) := p7.mono (by omega)
    unfold t__law_town_r1
    walk_at "sx"
    have hmn : 1 ≤ (if (m : Int) < 5 then (m : Int) else 5) ∧ (if (m : Int) < 5 then (m : Int) else 5) ≤ 5 ∧ (if (m : Int) < 5 then (m : Int) else 5) ≤ m := by split <;> omega
    generalize (if (m : Int) < 5 then (m : Int) else 5) = mn at hmn
    refine ⟨d, c, mn, _, rfl, by omega, by omega, by omega, p7, fun x H8 k8 p8 x0 x1 => ?_⟩
    walk_at "sx"
    have e8 := k8 _ _ (nin1 npd) e7
    refine ⟨d, c, pl, _, (1 + x).toNat, ys, by rw [Int.toNat_of_nonneg (by omega)], by omega, p8, e8, by omega, by omega, fun sl H9 zs ns k9 p9 e9 lz oz ndz => ?_⟩
    walk_at "sx"
    refine ⟨d, c, 9, _, rfl, by decide, by decide, by omega, p9, fun r1 HA kA pA ra0 ra1 => ?_⟩
    refine ⟨d, c, 31, _, rfl, by decide, by decide, by omega, pA, fun r2 HB kB pB rb0 rb1 => ?_⟩
    refine ⟨d, c, 121, _, rfl, by decide, by decide, by omega, pB, fun r3 HC kC pC rc0 rc1 => ⟨by walk_at "sz", fun lD HD nD kD eD => ?_⟩⟩
    refine ⟨d, c, 2, _, rfl, by decide, by decide, by omega, pC.keep kD, fun r4 HE kE pE rd0 rd1 => ?_⟩
    have eDE := kE _ _ (nin1 ((pC.keep kD).neL eD)) eD
    obtain ⟨w4, hw4, w40⟩ : ∃ w4 : Int, atI [V.int 0, V.int 120] r4 = some (.int w4) ∧ 0 ≤ w4 ∧ w4 ≤ 120 := by
      have : r4 = 0 ∨ r4 = 1 := by omega
      rcases this with rfl | rfl
      · exact ⟨_, rfl, by decide, by decide⟩
      · exact ⟨_, rfl, by decide, by decide⟩
    refine g_ixL eDE hw4 ⟨by walk_at "sz", fun lF HF nF kF eF => ?_⟩
    walk_at "sx"
    have pF := pE.keep kF
    have k7F : Keep [d] H7 HF := k8.trans (k9.trans (kA.trans (kB.trans (kC.trans (kD.all.trans (kE.trans kF.all))))))
    have k9F : Keep [d] H9 HF := kA.trans (kB.trans (kC.trans (kD.all.trans (kE.trans kF.all))))
    have nsd : sl ≠ d := p9.neL e9
    refine g_tupleL (k7F _ _ (nin1 npd) e7) fun t1 HG nG kG tG => g_tupleL (kG _ _ nin0 (k7F _ _ (nin1 nrd) f7)) fun t2 HI nI kI tI => g_tupleL ((kG.trans kI) _ _ nin0 (k9F _ _ (nin1 nsd) e9)) fun t3 HJ nJ kJ tJ => ?_
    have kFJ := kG.trans (kI.trans kJ)
    have pJ := pF.keep kFJ
    refine ⟨d, c, 4, _, rfl, by decide, by decide, by omega, pJ, fun r5 HL kL pL re0 re1 => ?_⟩
    have eFL := kL _ _ (nin1 (pJ.neL (kFJ _ _ nin0 eF))) (kFJ _ _ nin0 eF)
    obtain ⟨w5, hw5, w50, w51⟩ : ∃ w5 : Int, atI [V.int r1, V.int r2, V.int r3, V.int w4] r5 = some (.int w5) ∧ 0 ≤ w5 ∧ w5 ≤ 121 := by
      have : r5 = 0 ∨ r5 = 1 ∨ r5 = 2 ∨ r5 = 3 := by omega
      rcases this with rfl | rfl | rfl | rfl
      · exact ⟨_, rfl, by omega, by omega⟩
      · exact ⟨_, rfl, by omega, by omega⟩
      · exact ⟨_, rfl, by omega, by omega⟩
      · exact ⟨_, rfl, by omega, by omega⟩
    refine g_ixL eFL hw5 ⟨by walk_at "sz", fun tp HM nM kM tM => ?_⟩
    have ntJ := pJ.noTup
    have tG' := (((tG.keep kI nin0).keep kJ nin0).keep kL (ntJ _ _ ((tG.keep kI nin0).keep kJ nin0))).keep kM nin0
    have tI' := ((tI.keep kJ nin0).keep kL (ntJ _ _ (tI.keep kJ nin0))).keep kM nin0
    have tJ' := (tJ.keep kL (ntJ _ _ tJ)).keep kM nin0
    have dM := (((d7.keep k7F p7.noTup).keep kFJ noTup0).keep kL ntJ).keep kM noTup0
    have kAll : Keep [d] H HM := by
      have k67 : Keep [d] H H7 := fun b o hb e => k7 b o (by
        have hb' : b ≠ d := fun z => hb (List.mem_singleton.mpr z)
        simp only [List.mem_cons, List.not_mem_nil, or_false, not_or]
        exact ⟨hb', ne_of_none e nrl⟩) (kH b o hb e)
      exact k67.trans (k7F.trans (kFJ.all.trans (kL.trans kM.all)))
    exact q tp HM ⟨ys, rs, zs, w5⟩ kAll ((pL.keep kM).mono (by omega)) ⟨t1, t2, t3, vs, tM, tG', tI', dM, tJ'⟩ ⟨by show 1 ≤ ys.length; omega, by show ys.length ≤ 10; omega, oy, l7', o7, by show zs.length ≤ 5; omega, oz, w50, w51, by show 1 ≤ zs.length; omega, ndy, ndz ndy⟩


abbrev Tab := Nat → Nat → Option Int
def put (D : Tab) (g h : Nat) (v : Int) : Tab := fun g' h' => if g' = g ∧ h' = h then some v else D g' h'
theorem put_same {D : Tab} {g h : Nat} {v : Int} : put D g h v g h = some v := if_pos ⟨rfl, rfl⟩
/-! ### a table of rows -/
def rowV (n : Nat) (f : Nat → Option Int) : List V := (List.range n).map fun h => mV (f h)
theorem rowV_at {n : Nat} {f : Nat → Option Int} {h : Nat} (hh : h < n) : (rowV n f)[h]? = some (mV (f h)) := by
  unfold rowV
  rw [List.getElem?_map, List.getElem?_range hh]
  rfl
theorem rowV_len {n : Nat} {f : Nat → Option Int} : (rowV n f).length = n := by unfold rowV; rw [List.length_map, List.length_range]
theorem rowV_set {n : Nat} {D : Tab} {g h : Nat} {v : Int} (hh : h < n) : (rowV n (D g)).set h (.int v) = rowV n (put D g h v g) := by
  refine List.ext_getElem? fun i => ?_
  by_cases hi : i < n
  · rw [rowV_at hi]
    by_cases e : i = h
    · subst e
      rw [List.getElem?_set_self (by rw [rowV_len]; exact hi), put_same]
      rfl
    · rw [List.getElem?_set_ne (fun z => e z.symm), rowV_at hi]
      unfold put
      rw [if_neg fun z => e z.2]
  · rw [List.getElem?_eq_none (by rw [List.length_set, rowV_len]; omega), List.getElem?_eq_none (by rw [rowV_len]; omega)]
theorem rowV_other {n : Nat} {D : Tab} {g g' h : Nat} {v : Int} (e : g' ≠ g) : rowV n (put D g h v g') = rowV n (D g') := by
  unfold rowV
  refine List.map_congr_left fun i _ => ?_
  unfold put
  rw [if_neg fun z => e z.1]
def ChAt (H : Hp) (c : Addr) (n : Nat) (D : Tab) : Prop := ∃ vs, Tup H c vs ∧ vs.length = n ∧ ∀ g, g < n → ∃ p, vs[g]? = some (.ref p) ∧ Tup H p (rowV n (D g))
theorem ChAt.keep {H H' : Hp} {c : Addr} {n : Nat} {D : Tab} (h : ChAt H c n D) (k : Keep [] H H') : ChAt H' c n D := by
  obtain ⟨vs, h1, h2, h3⟩ := h
  refine ⟨vs, h1.keep k nin0, h2, fun g hg => ?_⟩
  obtain ⟨p, e, t⟩ := h3 g hg
  exact ⟨p, e, t.keep k nin0⟩
theorem ch_get {K : PySem.W.Frag} {H : Hp} {c : Addr} {n g h : Nat} {D : Tab} {Q : VK} (t : ChAt H c n D) (hg : g < n) (hh : h < n) (q : Q (mV (D g h)) H) : uIx K (.ref c) (.int (g : Nat)) H fun x H1 => uIx K x (.int (h : Nat)) H1 Q := by
  obtain ⟨vs, h1, h2, h3⟩ := t
  obtain ⟨p, e, t⟩ := h3 g hg
  exact g_ixT h1 (at_lit g rfl e) (g_ixT t (at_lit h rfl (rowV_at hh)) q)
def spShutH : Sp := fun vs H Q _ => ∃ (d c t : Addr) (n : Nat) (T : Tn), vs = [.ref d, .ref t] ∧ n < 700000 ∧ PenOk H d c n ∧ TnAt H t T ∧ TwOk T ∧ ∀ p H' (zs : List Int), Keep [d] H H' → PenOk H' d c (n + 30) → Tup H' p (zs.map V.int) → Q (.ref p) H'
theorem rd_shutH (K : PySem.W.Frag) : ∀ vs H Q E, spShutH vs H Q E → run (t__law_shut K spDraw) (L2.start N__law_shut vs) H Q := by
  rintro _ H Q _ ⟨d, c, t, n, T, rfl, hn, p, hT, ok, q⟩
  show run (t__law_shut K spDraw) [some (.ref d), some (.ref t), none, none] H Q
  have r18 := ok.r18
  unfold t__law_shut
  walk_at "sx"
  refine ⟨d, c, 4, n, rfl, by decide, by decide, by omega, p, fun lot H1 k1 p1 l0 l1 => ?_⟩
  walk_at "sx"
  have hT1 := hT.keep k1 p.noTup
  obtain ⟨ap, ar, as, rv, g1, g2, g3, g4, g5⟩ := hT1
  refine g_ixT g1 (at_lit 1 rfl rfl) (g_lenT g3 ?_)
  rw [g4.len]
  refine g_CR1 (S := [d]) p1.there (by omega) (by omega) ⟨fun i H' acc => ∃ zs : List Int, acc = zs.map V.int ∧ zs.length ≤ i ∧ PenOk H' d c (n + 1 + i), fun D H2 nD k2 => ⟨[], rfl, Nat.le_refl _, p1.keep k2⟩, ?_, ?_⟩
  · rintro D i H3 acc R R0 nD hi k3 eD ⟨zs, rfl, hl, p3⟩ hR hR0
    obtain ⟨n1, n2⟩ := p1.new nD
    have yes : ∀ H4, Keep [d] H3 H4 → PenOk H4 d c (n + 1 + (i + 1)) → R (.int (i : Nat)) H4 := fun H4 k4 p4 => hR _ _ k4 (by rw [List.length_map]; exact len_lt (by omega)) fun H5 k5 => ⟨zs ++ [(i : Int)], by rw [List.map_append]; rfl, by rw [List.length_append]; exact Nat.add_le_add_right hl 1, p4.keepL k5 n1 n2⟩
    have no : ∀ H4, Keep [d] H3 H4 → PenOk H4 d c (n + 1 + (i + 1)) → R0 H4 := fun H4 k4 p4 => hR0 _ k4 ⟨zs, rfl, Nat.le_succ_of_le hl, p4⟩
    walk_at "sx"
    refine g_eq rfl ?_
    walk_at "sx"
    split
    · exact yes _ (Keep.refl _ _) (p3.mono (by omega))
    · split
      · refine ⟨d, c, 4, _, rfl, by decide, by decide, by omega, p3, fun x H4 k4 p4 x0 x1 => g_eq rfl ?_⟩
        walk_at "sx"
        split
        · exact yes _ k4 p4
        · exact no _ k4 p4
      · exact no _ (Keep.refl _ _) (p3.mono (by omega))
  · rintro D H3 acc nD k3 eD ⟨zs, rfl, hl, p3⟩
    rw [Int.toNat_natCast] at p3
    refine g_tupleL eD fun p' H4 n4 k4 t4 => q p' H4 zs (k1.trans (k3.trans k4.all)) ((p3.keep k4).mono (by omega)) t4
def spNear1 : Sp := fun vs H Q _ => ∃ (o : Option Int) (r : Int), vs = [mV o, .int r] ∧ Q (.bl (match o with | none => false | some m => decide (m ≤ r))) H
theorem notN' (o : Option Int) : decide (mV o = V.non) = o.isNone := by cases o <;> rfl
theorem rd_near1 (K : PySem.W.Frag) : ∀ vs H Q E, spNear1 vs H Q E → run (t__is_near K) (L2.start N__is_near vs) H Q := by
  rintro _ H Q _ ⟨o, r, rfl, q⟩
  show run (t__is_near K) [some (mV o), some (.int r)] H Q
  unfold t__is_near
  walk_at "sx"
  rw [notN']
  cases o with
  | none => exact q
  | some m =>
    rw [if_pos (show (!(some m : Option Int).isNone) = true from rfl)]
    show rI0 _ (.int m) (.int r) H Q
    walk_at "sx"
    exact q
theorem inV_int {i : Int} {zs : List Int} : inV (.int i) (zs.map V.int) = decide (i ∈ zs) := by
  unfold inV
  induction zs with
  | nil => rfl
  | cons a r ih =>
    rw [List.map_cons, List.any_cons, ih]
    by_cases h : a = i
    · subst h
      simp [eqV]
    · have h' : ¬ i = a := fun e => h e.symm
      simp [eqV, h, h']
theorem flat_ints (zs : List Int) : (zs.map V.int).all flatV = true := by
  rw [List.all_map]
  exact List.all_eq_true.mpr fun _ _ => rfl
theorem g_notinT {K : PySem.W.Frag} {p : Addr} {i : Int} {zs : List Int} {H : Hp} {Q : VK} (h : Tup H p (zs.map V.int)) (q : Q (.bl (!decide (i ∈ zs))) H) : uIn K true (.int i) (.ref p) H Q :=
  .inl ⟨p, _, rfl, .inr h.sq, rfl, flat_ints zs, by rw [if_pos rfl, inV_int]; exact q⟩
def pIx : List Str → Str → Nat
  | [], _ => 0
  | y :: ys, z => if y = z then 0 else pIx ys z + 1
theorem pIx_at {z : Str} : ∀ {ys : List Str}, z ∈ ys → ys[pIx ys z]? = some z
  | y :: ys, h => by
    unfold pIx
    by_cases e : y = z
    · rw [if_pos e, e]; rfl
    · rw [if_neg e]
      exact pIx_at ((List.mem_cons.mp h).resolve_left fun q => e q.symm)
theorem pIx_first {z : Str} : ∀ {ys : List Str} {m : Nat}, m < pIx ys z → ys[m]? ≠ some z
  | [], _, h => by simp
  | y :: ys, m, h => by
    unfold pIx at h
    by_cases e : y = z
    · rw [if_pos e] at h; omega
    · rw [if_neg e] at h
      cases m with
      | zero => simpa using e
      | succ m => simpa using pIx_first (ys := ys) (m := m) (by omega)
theorem pIx_lt {z : Str} {ys : List Str} (h : z ∈ ys) : pIx ys z < ys.length := (List.getElem?_eq_some_iff.mp (pIx_at h)).1
def Bd (g : Nat) (b : Int) (f : Nat → Option Int) : Prop := (∀ h v, f h = some v → 0 ≤ v ∧ v ≤ b) ∧ f g = some 0
theorem Bd.mono {g : Nat} {b b' : Int} {f : Nat → Option Int} (h : Bd g b f) (l : b ≤ b') : Bd g b' f := ⟨fun i v e => ⟨(h.1 i v e).1, Int.le_trans (h.1 i v e).2 l⟩, h.2⟩
def setF (f : Nat → Option Int) (j : Nat) (v : Int) : Nat → Option Int := fun h => if h = j then some v else f h
theorem Bd.set {g : Nat} {b v : Int} {f : Nat → Option Int} {j : Nat} (h : Bd g b f) (hj : j ≠ g) (h0 : 0 ≤ v) (h1 : v ≤ b) : Bd g b (setF f j v) := ⟨fun i w e => by
  unfold setF at e
  split at e
  · cases e; exact ⟨h0, h1⟩
  · exact h.1 i w e, by unfold setF; rw [if_neg hj.symm]; exact h.2⟩
theorem bd_start {i : Nat} {b : Int} (h : 0 ≤ b) : Bd i b (setF (fun _ => none) i 0) := ⟨fun j v e => by
  unfold setF at e
  by_cases hj : j = i
  · rw [if_pos hj] at e; cases e; omega
  · rw [if_neg hj] at e
    exact absurd e (fun z => by cases z), by unfold setF; rw [if_pos rfl]⟩
theorem rowV_setF {n : Nat} {f : Nat → Option Int} {h : Nat} {v : Int} (hh : h < n) : (rowV n f).set h (.int v) = rowV n (setF f h v) := by
  refine List.ext_getElem? fun i => ?_
  by_cases hi : i < n
  · rw [rowV_at hi]
    by_cases e : i = h
    · subst e
      rw [List.getElem?_set_self (by rw [rowV_len]; exact hi)]
      unfold setF
      rw [if_pos rfl]
      rfl
    · rw [List.getElem?_set_ne (fun z => e z.symm), rowV_at hi]
      unfold setF
      rw [if_neg e]
  · rw [List.getElem?_eq_none (by rw [List.length_set, rowV_len]; omega), List.getElem?_eq_none (by rw [rowV_len]; omega)]
theorem ix_row {n j : Nat} {f : Nat → Option Int} (h : j < n) : ixN (rowV n f).length (j : Int) = some j := by
  unfold ixN
  rw [if_pos (by omega), rowV_len, if_pos (by omega)]
  rfl
/-- one look at one way of one road -/
theorem ch_one (K : PySem.W.Frag) {E : Ends} {t sh ap p rows : Addr} {goal turn one other there back here beyond : Option V} {k n : Nat} {ys : List Str} {a b : Str} {m : Option Int} {zs : List Int} {f : Nat → Option Int} {gz : Nat} {bd : Int} {H : Hp}
    (hap : Tup H ap (ys.map V.str)) (hn : ys.length = n) (hz : Tup H sh (zs.map V.int)) (hp : H p = some (.lst (rowV n f))) (hb : Bd gz bd f) (b0 : 0 ≤ bd) (ha : a ∈ ys) (hbb : b ∈ ys) (hm : minB m)
    (q : ∀ H' f' z15 z16, Keep [p] H H' → H' p = some (.lst (rowV n f')) → Bd gz (bd + 60) f' → E.nx [some (.ref t), some (.ref sh), some (.ref ap), some (.ref rows), goal, some (.ref p), turn, some (.int (k : Nat)), one, other, there, back, some (.str a), some (.str b), some (mV m), z15, z16] H') :
    t__law_chart_b1 K E [some (.ref t), some (.ref sh), some (.ref ap), some (.ref rows), goal, some (.ref p), turn, some (.int (k : Nat)), one, other, there, back, some (.str a), some (.str b), some (mV m), here, beyond] H := by
  have la : pIx ys a < n := by rw [← hn]; exact pIx_lt ha
  have lb : pIx ys b < n := by rw [← hn]; exact pIx_lt hbb
  have stay : ∀ z15 z16, E.nx [some (.ref t), some (.ref sh), some (.ref ap), some (.ref rows), goal, some (.ref p), turn, some (.int (k : Nat)), one, other, there, back, some (.str a), some (.str b), some (mV m), z15, z16] H := fun z15 z16 => q H f z15 z16 (Keep.refl _ _) hp (hb.mono (by omega))
  unfold t__law_chart_b1
  walk_at "sx"
  refine ⟨ap, ys, rfl, hap, a, pIx ys a, rfl, hap, pIx_at ha, fun m => pIx_first, g_ixL hp (at_lit _ rfl (rowV_at la)) ?_⟩
  walk_at "sx"
  refine ⟨ap, ys, rfl, hap, b, pIx ys b, rfl, hap, pIx_at hbb, fun m => pIx_first, g_ixL hp (at_lit _ rfl (rowV_at lb)) ?_⟩
  walk_at "sx"
  refine g_notinT hz ?_
  by_cases hk : (k : Int) ∈ zs
  · rw [decide_eq_true hk]
    walk_at "sx"
    exact stay _ _
  · rw [decide_eq_false hk]
    walk_at "sx"
    rw [notN', notN']
    cases m with
    | none =>
      walk_at "sx"
      exact stay _ _
    | some mm =>
      rw [if_pos (show (!(some mm : Option Int).isNone) = true from rfl)]
      have bmm := hm mm rfl
      cases eb : f (pIx ys b) with
      | none =>
        rw [if_neg (show ¬ (!(none : Option Int).isNone) = true from Bool.false_ne_true)]
        exact stay _ _
      | some w =>
        rw [if_pos (show (!(some w : Option Int).isNone) = true from rfl)]
        have bw := hb.1 _ _ eb
        have wr : pIx ys a ≠ gz → ∀ z15 z16, ∃ a_1 ys_1, ap = a_1 ∧ Tup H a_1 (List.map V.str ys_1) ∧ ∃ z j, [V.str a] = [V.str z] ∧ Tup H a_1 (List.map V.str ys_1) ∧ ys_1[j]? = some z ∧ (∀ (m : Nat), m < j → ys_1[m]? ≠ some z) ∧
            uSetL (V.ref p) (V.int (j : Nat)) (.int (w + mm)) H fun H3 => E.nx [some (.ref t), some (.ref sh), some (.ref ap), some (.ref rows), goal, some (.ref p), turn, some (.int (k : Nat)), one, other, there, back, some (.str a), some (.str b), some (mV (some mm)), z15, z16] H3 := fun hne z15 z16 =>
          ⟨ap, ys, rfl, hap, a, pIx ys a, rfl, hap, pIx_at ha, fun m => pIx_first, g_setL hp (ix_row la) fun H1 k1 e1 => q H1 (setF f (pIx ys a) (w + mm)) z15 z16 k1 (by rw [e1, rowV_setF la]) ((hb.mono (by omega)).set hne (by omega) (by omega))⟩
        cases ea : f (pIx ys a) with
        | none =>
          rw [if_pos (show mV none = V.non from rfl)]
          show uAdd K (.int w) (.int mm) H _
          walk_at "sx"
          exact wr (fun e => by rw [e, hb.2] at ea; cases ea) _ _
        | some v =>
          rw [if_neg (show ¬ mV (some v) = V.non from fun e => nomatch e)]
          show uAdd K (.int w) (.int mm) H _
          walk_at "sx"
          show rI0 _ (.int v) (.int (w + mm)) H _
          walk_at "sx"
          split
          · rename_i hgt
            show uAdd K (.int w) (.int mm) H _
            walk_at "sx"
            exact wr (fun e => by rw [e, hb.2] at ea; cases ea; omega) _ _
          · exact stay _ _
def spChartH : Sp := fun vs H Q _ => ∃ (t sh : Addr) (T : Tn) (zs : List Int), vs = [.ref t, .ref sh] ∧ TnAt H t T ∧ TwOk T ∧ Tup H sh (zs.map V.int) ∧ ∀ c H' D, Keep [] H H' → ChAt H' c T.places.length D → (∀ g, g < T.places.length → Bd g 1000000 (D g)) → Q (.ref c) H'
theorem rd_chartH (K : PySem.W.Frag) : ∀ vs H Q E, spChartH vs H Q E → run (t__law_chart K) (L2.start N__law_chart vs) H Q := by
  rintro _ H Q _ ⟨t, sh, T, zs, rfl, hT, ok, hz, q⟩
  have hT0 := hT
  obtain ⟨ap, ar, as, rv, g1, g2, g3, g4, g5⟩ := hT
  have p10 := ok.p10
  have r18 := ok.r18
  show run (t__law_chart K) [some (.ref t), some (.ref sh), none, none, none, none, none, none, none, none, none, none, none, none, none, none, none] H Q
  unfold t__law_chart
  walk_at "sx"
  refine g_ixT g1 (at_lit 0 rfl rfl) ⟨by walk_at "sz", fun rows H1 n1 k1 e1 => ?_⟩
  walk_at "sx"
  refine g_lenT (g2.keep k1 nin0) ?_
  rw [List.length_map]
  generalize hnn : T.places.length = n at q p10
  refine g_FR1 (by omega) (by omega) ⟨fun i σ H' => ∃ (y4 y5 y6 y7 y8 y9 y10 y11 y12 y13 y14 y15 y16 : Option V) (vs : List V) (D : Tab), σ = [some (.ref t), some (.ref sh), some (.ref ap), some (.ref rows), y4, y5, y6, y7, y8, y9, y10, y11, y12, y13, y14, y15, y16] ∧ Keep [rows] H1 H' ∧ H' rows = some (.lst vs) ∧ vs.length = i ∧ (∀ g, g < i → ∃ p, vs[g]? = some (.ref p) ∧ Tup H' p (rowV n (D g))) ∧ ∀ g, g < i → Bd g 1000000 (D g),
    ⟨_, _, _, _, _, _, _, _, _, _, _, _, _, [], fun _ _ => none, rfl, Keep.refl _ _, e1, rfl, fun g h => by omega, fun g h => by omega⟩, ?_, ?_⟩
  · rintro i σ H2 hi ⟨y4, y5, y6, y7, y8, y9, y10, y11, y12, y13, y14, y15, y16, vs, D, rfl, k2, e2, l2, o2, b2⟩
    have hi' : i < n := by omega
    have kz : Keep [] H H2 := k1.past k2 n1
    unfold t__law_chart_b4
    walk_at "sx"
    refine ⟨by walk_at "sz", fun l3 H3 n3 k3 e3 => g_lenT ((g2.keep kz nin0).keep k3 nin0) ?_⟩
    rw [List.length_map, hnn]
    refine .inr ⟨l3, (n : Nat), _, rfl, rfl, e3, by omega, by omega, by rw [Int.toNat_natCast]; simp; exact len_le (by omega), fun p H4 n4 k4 e4 => ?_⟩
    have e4' : H4 p = some (.lst (rowV n fun _ => none)) := by
      rw [e4, Int.toNat_natCast]
      congr 2
      unfold rowV
      refine List.ext_getElem? fun j => ?_
      by_cases hj : j < n
      · rw [List.getElem?_map, List.getElem?_range hj]
        simp [hj, List.flatten_replicate_singleton]
        rfl
      · rw [List.getElem?_eq_none (by simp; omega), List.getElem?_eq_none (by simp; omega)]
    walk_at "sx"
    refine g_setL e4' (ix_row hi') fun H5 k5 e5 => ?_
    rw [rowV_setF hi'] at e5
    walk_at "sx"
    have kz5 : Keep [p] H H5 := (kz.trans (k3.trans k4)).all.trans k5
    have np : H p = none := (kz.trans k3).free nin0 n4
    have ap5 : Tup H5 ap (T.places.map V.str) := (g2.keep (kz.trans (k3.trans k4)) nin0).keep k5 (noTup1 e4' _ _ (g2.keep (kz.trans (k3.trans k4)) nin0))
    refine g_lenT ap5 ?_
    rw [List.length_map, hnn]
    have kpH : ∀ {H'}, Keep [p] H5 H' → Keep [] H H' := fun k => (kz.trans (k3.trans k4)).past (k5.trans k) np
    refine g_FR1 (by omega) (by omega) ⟨fun j σ H' => ∃ (y6 y7 y8 y9 y10 y11 y12 y13 y14 y15 y16 : Option V) (f : Nat → Option Int), σ = [some (.ref t), some (.ref sh), some (.ref ap), some (.ref rows), some (.int (i : Nat)), some (.ref p), y6, y7, y8, y9, y10, y11, y12, y13, y14, y15, y16] ∧ Keep [p] H5 H' ∧ H' p = some (.lst (rowV n f)) ∧ Bd i (2160 * (j : Int)) f,
      ⟨_, _, _, _, _, _, _, _, _, _, _, _, rfl, Keep.refl _ _, e5, bd_start (by omega)⟩, ?_, ?_⟩
    · rintro j σ H6 hj ⟨y6, y7, y8, y9, y10, y11, y12, y13, y14, y15, y16, f, rfl, k6, e6, b6⟩
      have g3' := g3.keep (kpH k6) nin0
      unfold t__law_chart_b3
      walk_at "sx"
      refine g_ixT (g1.keep (kpH k6) nin0) (at_lit 1 rfl rfl) (g_lenT g3' ?_)
      rw [g4.len]
      refine g_FR1 (by omega) (by omega) ⟨fun k σ H' => ∃ (y7 y8 y9 y10 y11 y12 y13 y14 y15 y16 : Option V) (f : Nat → Option Int), σ = [some (.ref t), some (.ref sh), some (.ref ap), some (.ref rows), some (.int (i : Nat)), some (.ref p), some (.int (j : Nat)), y7, y8, y9, y10, y11, y12, y13, y14, y15, y16] ∧ Keep [p] H5 H' ∧ H' p = some (.lst (rowV n f)) ∧ Bd i (2160 * (j : Int) + 120 * (k : Int)) f,
        ⟨_, _, _, _, _, _, _, _, _, _, f, rfl, k6, e6, b6.mono (by omega)⟩, ?_, ?_⟩
      · rintro k σ H7 hk ⟨y7, y8, y9, y10, y11, y12, y13, y14, y15, y16, f, rfl, k7, e7, b7⟩
        have hk' : k < T.roads.length := by omega
        obtain ⟨pr, ev, hr⟩ := g4.get (List.getElem?_eq_getElem hk')
        obtain ⟨ra, rb, rc, rd⟩ := ok.rd _ (List.getElem_mem hk')
        generalize T.roads[k] = r at hr ra rb rc rd
        unfold t__law_chart_b2
        walk_at "sx"
        refine g_ixT (g1.keep (kpH k7) nin0) (at_lit 1 rfl rfl) (g_ixT (g3.keep (kpH k7) nin0) (at_lit k rfl ev) (g_tup (Tup.keep hr (kpH k7) nin0) rfl ?_))
        walk_at "sx"
        refine ⟨_, _, rfl, _, _, rfl, _, _, rfl, _, _, rfl, rfl, ?_⟩
        refine ⟨by walk_at "sz", fun ta H8 n8 k8 t8 => ⟨by walk_at "sz", fun tb H9 n9 k9 t9 => ⟨by walk_at "sz", fun tc HA nA kA tA => ?_⟩⟩⟩
        have k7A := k8.trans (k9.trans kA)
        have taA := (t8.keep k9 nin0).keep kA nin0
        have tbA := t9.keep kA nin0
        have eA := k7A _ _ nin0 e7
        have kA5 : Keep [p] H5 HA := k7.trans k7A.all
        have ntp : NoTup [p] HA := noTup1 eA
        have nxt : ∀ (w : Nat) (a b : Str) (m : Option Int) (HB : Hp) (f : Nat → Option Int) (y12 y13 y14 y15 y16 : Option V), a ∈ T.places → b ∈ T.places → minB m → Keep [p] HA HB → HB p = some (.lst (rowV n f)) → Bd i (2160 * (j : Int) + 120 * (k : Int) + 60 * (w : Int)) f → ∀ (E : Ends),
            (∀ H' f' z15 z16, Keep [p] HB H' → H' p = some (.lst (rowV n f')) → Bd i (2160 * (j : Int) + 120 * (k : Int) + 60 * (w : Int) + 60) f' → E.nx [some (.ref t), some (.ref sh), some (.ref ap), some (.ref rows), some (.int (i : Nat)), some (.ref p), some (.int (j : Nat)), some (.int (k : Nat)), some (.str r.one), some (.str r.two), some (mV r.there), some (mV r.back), some (.str a), some (.str b), some (mV m), z15, z16] H') →
            t__law_chart_b1 K E [some (.ref t), some (.ref sh), some (.ref ap), some (.ref rows), some (.int (i : Nat)), some (.ref p), some (.int (j : Nat)), some (.int (k : Nat)), some (.str r.one), some (.str r.two), some (mV r.there), some (mV r.back), some (.str a), some (.str b), some (mV m), y15, y16] HB := fun w a b m HB f y12 y13 y14 y15 y16 ha hb hm kB eB bB E hE =>
          ch_one K (g2.keep (kpH (kA5.trans kB)) nin0) hnn (hz.keep (kpH (kA5.trans kB)) nin0) eB bB (by omega) ha hb hm hE
        refine g_FT (fun w σ H' => ∃ (y12 y13 y14 y15 y16 : Option V) (f : Nat → Option Int), σ = [some (.ref t), some (.ref sh), some (.ref ap), some (.ref rows), some (.int (i : Nat)), some (.ref p), some (.int (j : Nat)), some (.int (k : Nat)), some (.str r.one), some (.str r.two), some (mV r.there), some (mV r.back), y12, y13, y14, y15, y16] ∧ Keep [p] HA H' ∧ H' p = some (.lst (rowV n f)) ∧ Bd i (2160 * (j : Int) + 120 * (k : Int) + 60 * (w : Int)) f) tA
          ⟨_, _, _, _, _, f, rfl, Keep.refl _ _, eA, b7.mono (by omega)⟩ ?_ ?_ ?_
        · rintro w σ H' _ ⟨_, _, _, _, _, _, _, k', _⟩
          exact tA.keep k' (ntp _ _ tA)
        · rintro w x σ HB hx ⟨y12, y13, y14, y15, y16, f, rfl, kB, eB, bB⟩
          have hw : w = 0 ∧ x = .ref ta ∨ w = 1 ∧ x = .ref tb := by
            match w, hx with
            | 0, hx => exact .inl ⟨rfl, by cases hx; rfl⟩
            | 1, hx => exact .inr ⟨rfl, by cases hx; rfl⟩
          rcases hw with ⟨rfl, rfl⟩ | ⟨rfl, rfl⟩
          · refine g_tup (taA.keep kB (ntp _ _ taA)) rfl ?_
            walk_at "sx"
            refine ⟨_, _, rfl, _, _, rfl, _, _, rfl, rfl, ?_⟩
            refine nxt 0 _ _ _ HB f none none none _ _ ra rb rc kB eB bB _ fun H' f' z15 z16 k' e' b' => ⟨_, _, _, _, _, f', rfl, kB.trans k', e', b'.mono (by omega)⟩
          · refine g_tup (tbA.keep kB (ntp _ _ tbA)) rfl ?_
            walk_at "sx"
            refine ⟨_, _, rfl, _, _, rfl, _, _, rfl, rfl, ?_⟩
            refine nxt 1 _ _ _ HB f none none none _ _ rb ra rd kB eB bB _ fun H' f' z15 z16 k' e' b' => ⟨_, _, _, _, _, f', rfl, kB.trans k', e', b'.mono (by omega)⟩
        · rintro σ HB ⟨y12, y13, y14, y15, y16, f, rfl, kB, eB, bB⟩
          have bB : Bd i (2160 * (j : Int) + 120 * (k : Int) + 60 * ((2 : Nat) : Int)) f := bB
          exact ⟨_, _, _, _, _, _, _, _, _, _, f, rfl, kA5.trans kB, eB, bB.mono (by omega)⟩
      · rintro σ H7 ⟨y7, y8, y9, y10, y11, y12, y13, y14, y15, y16, f, rfl, k7, e7, b7⟩
        exact ⟨_, _, _, _, _, _, _, _, _, _, _, f, rfl, k7, e7, b7.mono (by omega)⟩
    · rintro σ H6 ⟨y6, y7, y8, y9, y10, y11, y12, y13, y14, y15, y16, f, rfl, k6, e6, b6⟩
      unfold t__law_chart_r1
      walk_at "sx"
      have krp : rows ≠ p := ne_of_none (k3 _ _ nin0 e2) n4
      have k26 : Keep [p] H2 H6 := (k3.trans k4).all.trans (k5.trans k6)
      have e2' := k26 _ _ (nin1 krp) e2
      refine ⟨.inl ⟨rfl, _, .inl (.inl e2')⟩, g_tupleL e6 fun tp H7 n7 k7 t7 => ?_⟩
      have e7 := k7 _ _ nin0 e2'
      refine g_append e7 (len_lt (by omega)) fun H8 k8 e8 => ?_
      have kq : Keep [] H2 H7 := (Keep.trans (k3.trans k4) (Keep.refl _ _)).past (k5.trans (k6.trans k7.all)) (k3.free nin0 n4)
      refine ⟨_, _, _, _, _, _, _, _, _, _, _, _, _, vs ++ [.ref tp], fun g => if g = i then f else D g, rfl, k2.trans (kq.all.trans k8), e8, by rw [List.length_append, l2]; rfl, fun g hg => ?_, fun g hg => ?_⟩
      · by_cases h : g = i
        · subst h
          refine ⟨tp, by rw [List.getElem?_append_right (by omega), l2, Nat.sub_self]; rfl, ?_⟩
          show Tup H8 tp (rowV n (if g = g then f else D g))
          rw [if_pos rfl]
          exact t7.keep k8 (noTup1 e7 _ _ t7)
        · obtain ⟨p', e', t'⟩ := o2 g (by omega)
          refine ⟨p', by rw [List.getElem?_append_left (by omega)]; exact e', ?_⟩
          show Tup H8 p' (rowV n (if g = i then f else D g))
          rw [if_neg h]
          exact (t'.keep kq nin0).keep k8 (noTup1 e7 _ _ (t'.keep kq nin0))
      · show Bd g 1000000 (if g = i then f else D g)
        by_cases h : g = i
        · rw [if_pos h, h]
          exact b6.mono (by omega)
        · rw [if_neg h]
          exact b2 g (by omega)
  · rintro σ H2 ⟨y4, y5, y6, y7, y8, y9, y10, y11, y12, y13, y14, y15, y16, vs, D, rfl, k2, e2, l2, o2, b2⟩
    unfold t__law_chart_r2
    walk_at "sx"
    refine g_tupleL e2 fun c H3 n3 k3 t3 => q c H3 D ((k1.past k2 n1).trans k3) ⟨vs, t3, l2, fun g hg => ?_⟩ b2
    obtain ⟨p', e', t'⟩ := o2 g hg
    exact ⟨p', e', t'.keep k3 nin0⟩


def nearB (o : Option Int) (r : Int) : Bool := match o with
  | none => false
  | some m => decide (m ≤ r)
def nearTo (T : Tn) (D : Tab) (z : Str) (n : Nat) : List Str := ((List.range n).filter fun g => nearB (D g (pIx T.places z)) T.reach).map fun g => T.places.getD g ""
theorem nearTo_succ (T : Tn) (D : Tab) (z : Str) (n : Nat) : nearTo T D z (n + 1) = nearTo T D z n ++ (if nearB (D n (pIx T.places z)) T.reach = true then [T.places.getD n ""] else []) := by
  unfold nearTo
  rw [List.range_succ, List.filter_append, List.map_append]
  congr 1
  by_cases h : nearB (D n (pIx T.places z)) T.reach = true
  · rw [if_pos h, List.filter_cons, if_pos h]; rfl
  · rw [if_neg h, List.filter_cons, if_neg h]; rfl
theorem nearTo_len (T : Tn) (D : Tab) (z : Str) (n : Nat) : (nearTo T D z n).length ≤ n := by
  unfold nearTo
  rw [List.length_map]
  exact Nat.le_trans (List.length_filter_le _ _) (by rw [List.length_range]; exact Nat.le_refl _)
def spReached : Sp := fun vs H Q _ => ∃ (t c : Addr) (z : Str) (T : Tn) (D : Tab), vs = [.ref t, .ref c, .str z] ∧ TnAt H t T ∧ T.places.length ≤ 10 ∧ z ∈ T.places ∧ ChAt H c T.places.length D ∧ ∀ l H', H l = none → Keep [] H H' → H' l = some (.lst ((nearTo T D z T.places.length).map V.str)) → Q (.ref l) H'
theorem pl_get {T : Tn} {i : Nat} (h : i < T.places.length) : (T.places.map V.str)[i]? = some (.str (T.places.getD i "")) := by
  rw [List.getElem?_map, List.getD_eq_getElem?_getD, List.getElem?_eq_getElem h]
  rfl
theorem rd_reached (K : PySem.W.Frag) : ∀ vs H Q E, spReached vs H Q E → run (t_reached K spNear1) (L2.start N_reached vs) H Q := by
  rintro _ H Q _ ⟨t, c, z, T, D, rfl, hT, p10, hz, hc, q⟩
  obtain ⟨ap, ar, as, rv, g1, g2, g3, g4, g5⟩ := hT
  have hlt := pIx_lt hz
  obtain ⟨vs, c1, c2, c3⟩ := hc
  show run (t_reached K spNear1) [some (.ref t), some (.ref c), some (.str z), none, none, none, none] H Q
  unfold t_reached
  walk_at "sx"
  refine g_ixT g1 (at_lit 0 rfl rfl) ⟨ap, T.places, rfl, g2, z, pIx T.places z, rfl, g2, pIx_at hz, fun m => pIx_first, ?_⟩
  walk_at "sx"
  refine g_ixT g1 (at_lit 3 rfl rfl) ?_
  refine g_ixT g1 (at_lit 0 rfl rfl) ?_
  refine g_CZ g2 c1 (by rw [List.length_map, c2]) (fun i H' acc => acc = (nearTo T D z i).map V.str) (fun _ _ _ _ => rfl) ?_ ?_
  · rintro L i x y H2 acc R R0 Tp H3 nL hx hy k3 eL k2 rfl eT hR hR0
    have hi := (List.getElem?_eq_some_iff.mp hx).1
    rw [List.length_map] at hi
    rw [pl_get hi] at hx
    cases hx
    obtain ⟨p, ev, tp⟩ := c3 i hi
    rw [ev] at hy
    cases hy
    have hl := nearTo_len T D z i
    walk_at "sx"
    refine g_pair eT rfl ?_
    walk_at "sx"
    refine ⟨_, _, rfl, _, _, rfl, rfl, ?_⟩
    walk_at "sx"
    refine g_ixT (tp.keep k3 nin0) (at_lit _ rfl (rowV_at hlt)) ⟨D i (pIx T.places z), T.reach, rfl, ?_⟩
    have hs := nearTo_succ T D z i
    walk_at "sx"
    show if nearB (D i (pIx T.places z)) T.reach = true then _ else _
    split
    · rename_i h
      rw [if_pos h] at hs
      exact hR _ _ (Keep.refl _ _) (by rw [List.length_map]; exact len_lt (by omega)) fun H5 k5 => by rw [hs, List.map_append]; rfl
    · rename_i h
      rw [if_neg h, List.append_nil] at hs
      exact hR0 _ (Keep.refl _ _) (by rw [hs])
  · rintro L H2 acc nL k2 eL rfl
    rw [List.length_map] at eL
    exact q L H2 nL k2 eL
theorem rd_nearL (K : PySem.W.Frag) : ∀ vs H Q E, spReached vs H Q E → run (t__law_near K) (L2.start N__law_near vs) H Q := by
  rintro _ H Q _ ⟨t, c, z, T, D, rfl, hT, p10, hz, hc, q⟩
  have hT0 := hT
  obtain ⟨ap, ar, as, rv, g1, g2, g3, g4, g5⟩ := hT
  have hlt := pIx_lt hz
  show run (t__law_near K) [some (.ref t), some (.ref c), some (.str z), none, none, none] H Q
  unfold t__law_near
  walk_at "sx"
  refine g_ixT g1 (at_lit 0 rfl rfl) ⟨ap, T.places, rfl, g2, z, pIx T.places z, rfl, g2, pIx_at hz, fun m => pIx_first, ?_⟩
  walk_at "sx"
  refine ⟨by walk_at "sz", fun l H1 n1 k1 e1 => g_ixT (g1.keep k1 nin0) (at_lit 0 rfl rfl) ?_⟩
  walk_at "sx"
  refine g_lenT (g2.keep k1 nin0) ?_
  rw [List.length_map]
  refine g_FR1 (by omega) (by omega) ⟨fun i σ H' => ∃ y5, σ = [some (.ref t), some (.ref c), some (.str z), some (.int (pIx T.places z : Nat)), some (.ref l), y5] ∧ Keep [l] H1 H' ∧ H' l = some (.lst ((nearTo T D z i).map V.str)), ⟨_, rfl, Keep.refl _ _, e1⟩, ?_, ?_⟩
  · rintro i σ H2 hi ⟨y5, rfl, k2, e2⟩
    have hi' : i < T.places.length := by omega
    have kz : Keep [] H H2 := k1.past k2 n1
    have hs := nearTo_succ T D z i
    have hl := nearTo_len T D z i
    have hc2 := hc.keep kz
    have g1' := g1.keep kz nin0
    have g2' := g2.keep kz nin0
    unfold t__law_near_b1
    walk_at "sx"
    refine ch_get hc2 hi' hlt ?_
    walk_at "sx"
    rw [notN']
    cases eo : D i (pIx T.places z) with
    | none =>
      rw [if_neg (show ¬ (!(none : Option Int).isNone) = true from Bool.false_ne_true)]
      rw [if_neg (by rw [eo]; exact Bool.false_ne_true), List.append_nil] at hs
      exact ⟨_, rfl, k2, by rw [hs]; exact e2⟩
    | some m =>
      rw [if_pos (show (!(some m : Option Int).isNone) = true from rfl)]
      refine ch_get hc2 hi' hlt (g_ixT g1' (at_lit 3 rfl rfl) ?_)
      rw [eo]
      show rI0 _ (.int m) (.int T.reach) H2 _
      walk_at "sx"
      split
      · rename_i h
        rw [if_pos (by rw [eo]; exact decide_eq_true h)] at hs
        refine ⟨.inl ⟨rfl, _, .inl (.inl e2)⟩, g_ixT g1' (at_lit 0 rfl rfl) (g_ixT g2' (at_lit i rfl (pl_get hi')) (g_append e2 (by rw [List.length_map]; exact len_lt (by omega)) fun H3 k3 e3 => ⟨_, rfl, k2.trans k3, ?_⟩))⟩
        rw [hs, List.map_append]
        exact e3
      · rename_i h
        rw [if_neg (by rw [eo]; exact fun z => h (of_decide_eq_true z)), List.append_nil] at hs
        exact ⟨_, rfl, k2, by rw [hs]; exact e2⟩
  · rintro σ H2 ⟨y5, rfl, k2, e2⟩
    unfold t__law_near_r1
    walk_at "sx"
    exact q l H2 n1 (k1.past k2 n1) e2
def mD : Option Int → PyData
  | none => .none
  | some i => .int i
section
variable {K : PySem.W.Frag} {H : Hp}
theorem dp_mV (o : Option Int) : Dp K H (mV o) (mD o) := by
  cases o with
  | none => exact .non
  | some i => exact .int i
theorem dp_map {α : Type} (f : α → V) (g : α → PyData) : ∀ (xs : List α), (∀ x ∈ xs, Dp K H (f x) (g x)) → DpAll K H (xs.map f) (xs.map g)
  | [], _ => .nil
  | x :: xs, h => .cons (h x List.mem_cons_self) (dp_map f g xs fun y hy => h y (List.mem_cons_of_mem _ hy))
theorem dp_pt : ∀ (vs : List V) (ds : List PyData), vs.length = ds.length → (∀ (i : Nat) (v : V) (d : PyData), vs[i]? = some v → ds[i]? = some d → Dp K H v d) → DpAll K H vs ds
  | [], [], _, _ => .nil
  | v :: vs, d :: ds, l, h => .cons (h 0 v d rfl rfl) (dp_pt vs ds (by simpa using l) fun i v' d' e1 e2 => h (i + 1) v' d' (by simpa using e1) (by simpa using e2))
  | [], _ :: _, l, _ => by simp at l
  | _ :: _, [], l, _ => by simp at l
def rdD (r : Rd) : PyData := .tuple [.str r.one, .str r.two, mD r.there, mD r.back]
theorem dp_rds : ∀ {vs : List V} {rs : List Rd}, RdsAt H vs rs → DpAll K H vs (rs.map rdD)
  | _, _, .nil => .nil
  | _, _, .cons h q => .cons (.tup (Tup.sq h) (.cons (.str _) (.cons (.str _) (.cons (dp_mV _) (.cons (dp_mV _) .nil))))) (dp_rds q)
def tnD (T : Tn) : PyData := .tuple [.tuple (T.places.map .str), .tuple (T.roads.map rdD), .tuple (T.stands.map .str), .int T.reach]
theorem dp_tn {t : Addr} {T : Tn} (h : TnAt H t T) : Dp K H (.ref t) (tnD T) := by
  obtain ⟨ap, ar, as, vs, h1, h2, h3, h4, h5⟩ := h
  exact .tup h1.sq (.cons (.tup h2.sq (dp_map _ _ _ fun x _ => .str x)) (.cons (.tup h3.sq (dp_rds h4)) (.cons (.tup h5.sq (dp_map _ _ _ fun x _ => .str x)) (.cons (.int _) .nil))))
def chD (n : Nat) (D : Tab) : PyData := .tuple ((List.range n).map fun g => .tuple ((List.range n).map fun h => mD (D g h)))
theorem dp_ch {c : Addr} {n : Nat} {D : Tab} (h : ChAt H c n D) : Dp K H (.ref c) (chD n D) := by
  obtain ⟨vs, h1, h2, h3⟩ := h
  refine .tup h1.sq (dp_pt _ _ (by rw [List.length_map, List.length_range, h2]) fun i v d e1 e2 => ?_)
  have hi := (List.getElem?_eq_some_iff.mp e1).1
  obtain ⟨p, e, t⟩ := h3 i (by omega)
  rw [e] at e1
  cases e1
  rw [List.getElem?_map, List.getElem?_range (by omega)] at e2
  cases e2
  exact .tup t.sq (dp_map _ _ _ fun x _ => dp_mV _)
end
theorem fines_map {α : Type} (g : α → PyData) : ∀ (xs : List α), (∀ x ∈ xs, fine (g x)) → fines (xs.map g)
  | [], _ => trivial
  | x :: xs, h => ⟨h x List.mem_cons_self, fines_map g xs fun y hy => h y (List.mem_cons_of_mem _ hy)⟩
theorem costs_map {α : Type} (g : α → PyData) (b : Nat) : ∀ (xs : List α), (∀ x ∈ xs, cost (g x) ≤ b) → costs (xs.map g) ≤ xs.length * (b + 2)
  | [], _ => by simp [costs]
  | x :: xs, h => by
    have h1 := h x List.mem_cons_self
    have h2 := costs_map g b xs fun y hy => h y (List.mem_cons_of_mem _ hy)
    simp only [List.map_cons, costs, List.length_cons, Nat.add_mul]
    omega
theorem depth_map {α : Type} (g : α → PyData) (b : Nat) : ∀ (xs : List α), (∀ x ∈ xs, (g x).depth ≤ b) → PyData.depthAll (xs.map g) ≤ b
  | [], _ => by simp [PyData.depthAll]
  | x :: xs, h => by
    have h1 := h x List.mem_cons_self
    have h2 := depth_map g b xs fun y hy => h y (List.mem_cons_of_mem _ hy)
    simp only [List.map_cons, PyData.depthAll]
    omega
/-- small data: fine, of few signs, of few levels -/
structure Sm (c k : Nat) (d : PyData) : Prop where
  f : fine d
  c : cost d ≤ c
  d : d.depth ≤ k
theorem sm_str {y : Str} (h : NmS 30 y) : Sm 302 0 (.str y) := ⟨fun ch hc => Nat.lt_of_lt_of_le (h.2 ch hc) (by decide), by show 10 * y.length + 2 ≤ 302; have := h.1; omega, by simp [PyData.depth]⟩
theorem log_small {i : Int} (h0 : 0 ≤ i) (h1 : i ≤ 1000000) : i.natAbs.log2 < 1920 := by
  by_cases h : i.natAbs = 0
  · rw [h]; decide
  · refine (Nat.log2_lt h).mpr (Nat.lt_of_le_of_lt (show i.natAbs ≤ 1000000 by omega) (Nat.lt_of_lt_of_le (show 1000000 < 2 ^ 20 by decide) (Nat.pow_le_pow_right (by decide) (by decide))))
theorem sm_mD {o : Option Int} (h : ∀ i, o = some i → 0 ≤ i ∧ i ≤ 1000000) : Sm 1921 0 (mD o) := by
  cases o with
  | none => exact ⟨trivial, by decide, by simp [mD, PyData.depth]⟩
  | some i => exact ⟨log_small (h i rfl).1 (h i rfl).2, Nat.le_refl _, by simp [mD, PyData.depth]⟩
theorem sm_tup {α : Type} {c k : Nat} (g : α → PyData) (xs : List α) (h : ∀ x ∈ xs, Sm c k (g x)) : Sm (xs.length * (c + 2) + 3) (k + 1) (.tuple (xs.map g)) :=
  ⟨fines_map g xs fun x hx => (h x hx).f, Nat.add_le_add_right (costs_map g c xs fun x hx => (h x hx).c) 3, by
    have := depth_map g k xs fun x hx => (h x hx).d
    simp only [PyData.depth]
    omega⟩
theorem Sm.mono {c c' k k' : Nat} {d : PyData} (h : Sm c k d) (l : c ≤ c') (m : k ≤ k') : Sm c' k' d := ⟨h.f, Nat.le_trans h.c l, Nat.le_trans h.d m⟩
theorem sm_rd {T : Tn} (ok : TwOk T) : ∀ r ∈ T.roads, Sm 5000 1 (rdD r) := fun r hr => by
  obtain ⟨h1, h2, h3, h4⟩ := ok.rd r hr
  have a := sm_str (ok.nm _ h1)
  have b := sm_str (ok.nm _ h2)
  have c := sm_mD (o := r.there) fun i e => by have := h3 i e; omega
  have d := sm_mD (o := r.back) fun i e => by have := h4 i e; omega
  have ac := a.c
  have bc := b.c
  have cc := c.c
  have dc := d.c
  have ad := a.d
  have bd := b.d
  have cd := c.d
  have dd := d.d
  refine ⟨⟨a.f, b.f, c.f, d.f, trivial⟩, ?_, ?_⟩
  · show cost (.str r.one) + 2 + (cost (.str r.two) + 2 + (cost (mD r.there) + 2 + (cost (mD r.back) + 2 + 0))) + 3 ≤ 5000
    omega
  · unfold rdD
    simp only [PyData.depth, PyData.depthAll] at *
    omega
theorem sm_tn {T : Tn} (ok : TwOk T) {r : Int} (h0 : 0 ≤ r) (h1 : r ≤ 121) : Sm 120000 3 (tnD { T with reach := r }) := by
  have a := sm_tup (α := Str) (c := 302) (k := 0) PyData.str T.places fun y hy => sm_str (ok.nm y hy)
  have b := sm_tup rdD T.roads (sm_rd ok)
  have c := sm_tup (α := Str) (c := 302) (k := 0) PyData.str T.stands fun y hy => sm_str (ok.nm y (ok.sp y hy))
  have ac := a.c
  have bc := b.c
  have cc := c.c
  have ad := a.d
  have bd := b.d
  have cd := c.d
  have p10 := ok.p10
  have r18 := ok.r18
  have s5 := ok.s5
  refine ⟨⟨a.f, b.f, c.f, log_small (i := r) h0 (by omega), trivial⟩, ?_, ?_⟩
  · show cost (.tuple (T.places.map .str)) + 2 + (cost (.tuple (T.roads.map rdD)) + 2 + (cost (.tuple (T.stands.map .str)) + 2 + (1921 + 2 + 0))) + 3 ≤ 120000
    omega
  · unfold tnD
    simp only [PyData.depth, PyData.depthAll] at *
    omega
theorem sm_ch {n : Nat} {D : Tab} (hn : n ≤ 10) (h : ∀ g, g < n → Bd g 1000000 (D g)) : Sm 220000 2 (chD n D) := by
  have row : ∀ g ∈ List.range n, Sm 20000 1 (.tuple ((List.range n).map fun h => mD (D g h))) := fun g hg => by
    have a := sm_tup (fun h => mD (D g h)) (List.range n) fun x hx => sm_mD fun i e => (h g (List.mem_range.mp hg)).1 x i e
    rw [List.length_range] at a
    exact a.mono (by omega) (by decide)
  have a := sm_tup (fun g => PyData.tuple ((List.range n).map fun h => mD (D g h))) (List.range n) row
  rw [List.length_range] at a
  exact a.mono (by omega) (by decide)
theorem cut_from {xs : List V} (n : Nat) : cutV xs (some (n : Int)) none = xs.drop n := by
  unfold cutV
  rw [HT.sIx_none, HT.sIx_nat, ← List.length_drop, List.take_length]
  by_cases h : n ≤ xs.length
  · rw [Nat.min_eq_left h]
  · rw [Nat.min_eq_right (by omega), List.drop_length, List.drop_eq_nil_of_le (by omega)]
theorem cut_upto {xs : List V} (n : Nat) : cutV xs none (some (n : Int)) = xs.take n := by
  unfold cutV
  rw [HT.sIx_none, HT.sIx_nat, List.drop_zero, Nat.sub_zero]
  by_cases h : n ≤ xs.length
  · rw [Nat.min_eq_left h]
  · rw [Nat.min_eq_right (by omega), List.take_length, List.take_of_length_le (by omega)]
def rT (T : Tn) (r : Int) : Tn := { T with reach := r }
theorem ChAt.keepS {H H' : Hp} {S : List Addr} {c : Addr} {n : Nat} {D : Tab} (h : ChAt H c n D) (k : Keep S H H') (nt : NoTup S H) : ChAt H' c n D := by
  obtain ⟨vs, h1, h2, h3⟩ := h
  refine ⟨vs, h1.keep k (nt _ _ h1), h2, fun g hg => ?_⟩
  obtain ⟨p, e, t⟩ := h3 g hg
  exact ⟨p, e, t.keep k (nt _ _ t)⟩
/-- two towns and two charts -/
structure Two (H : Hp) (L1 L2 t1 t2 c1 c2 : Addr) (T : Tn) (r2 : Int) (D1 D2 : Tab) : Prop where
  l1 : H L1 = some (.lst [.ref t1, .ref t2])
  l2 : H L2 = some (.lst [.ref c1, .ref c2])
  t1 : TnAt H t1 T
  t2 : TnAt H t2 (rT T r2)
  c1 : ChAt H c1 T.places.length D1
  c2 : ChAt H c2 T.places.length D2
theorem Two.keep {H H' : Hp} {L1 L2 t1 t2 c1 c2 : Addr} {T : Tn} {r2 : Int} {D1 D2 : Tab} (h : Two H L1 L2 t1 t2 c1 c2 T r2 D1 D2) (k : Keep [] H H') : Two H' L1 L2 t1 t2 c1 c2 T r2 D1 D2 :=
  ⟨k _ _ nin0 h.l1, k _ _ nin0 h.l2, h.t1.keep k noTup0, h.t2.keep k noTup0, h.c1.keep k, h.c2.keep k⟩
structure TwoOk (T : Tn) (r2 : Int) (D1 D2 : Tab) : Prop where
  ok : TwOk T
  r0 : 0 ≤ r2
  r1 : r2 ≤ 121
  d1 : ∀ g, g < T.places.length → Bd g 1000000 (D1 g)
  d2 : ∀ g, g < T.places.length → Bd g 1000000 (D2 g)


def twoD (T : Tn) (r2 : Int) (D1 D2 : Tab) : PyData := .tuple [.list [tnD T, tnD (rT T r2)], .list [chD T.places.length D1, chD T.places.length D2]]
theorem th_two {K : PySem.W.Frag} {H : Hp} {x L1 L2 t1 t2 c1 c2 : Addr} {T : Tn} {r2 : Int} {D1 D2 : Tab} (tx : Tup H x [.ref L1, .ref L2]) (h : Two H L1 L2 t1 t2 c1 c2 T r2 D1 D2) (ok : TwoOk T r2 D1 D2) : Th K H (.ref x) (twoD T r2 D1 D2) := by
  have a := sm_tn ok.ok (r := T.reach) ok.ok.re0 ok.ok.re1
  have a' : Sm 120000 3 (tnD T) := a
  have b : Sm 120000 3 (tnD (rT T r2)) := sm_tn ok.ok ok.r0 ok.r1
  have c := sm_ch ok.ok.p10 ok.d1
  have e := sm_ch ok.ok.p10 ok.d2
  have ac := a'.c
  have bc := b.c
  have cc := c.c
  have ec := e.c
  have ad := a'.d
  have bd := b.d
  have cd := c.d
  have ed := e.d
  refine .dp (.tup tx.sq (.cons (.lst (lst_sq h.l1) (.cons (dp_tn h.t1) (.cons (dp_tn h.t2) .nil))) (.cons (.lst (lst_sq h.l2) (.cons (dp_ch h.c1) (.cons (dp_ch h.c2) .nil))) .nil))) ⟨⟨a'.f, b.f, trivial⟩, ⟨c.f, e.f, trivial⟩, trivial⟩ ?_ ?_
  · show (cost (tnD T) + 2 + (cost (tnD (rT T r2)) + 2 + 0) + 2) + 2 + ((cost (chD T.places.length D1) + 2 + (cost (chD T.places.length D2) + 2 + 0) + 2) + 2 + 0) + 3 ≤ 10000000
    omega
  · unfold twoD
    simp only [PyData.depth, PyData.depthAll] at *
    omega
theorem th_strs {K : PySem.W.Frag} {H : Hp} {l : Addr} {ys : List Str} (h : H l = some (.lst (ys.map V.str))) (hl : ys.length ≤ 10) (hs : ∀ y ∈ ys, NmS 30 y) : Th K H (.ref l) (.list (ys.map .str)) := by
  have a := sm_tup (α := Str) (c := 302) (k := 0) PyData.str ys fun y hy => sm_str (hs y hy)
  have ac : costs (ys.map .str) + 3 ≤ ys.length * (302 + 2) + 3 := a.c
  have ad := a.d
  refine .dp (.lst (lst_sq h) (dp_map _ _ _ fun x _ => .str x)) a.f ?_ ?_
  · show costs (ys.map .str) + 2 ≤ 10000000
    omega
  · simp only [PyData.depth] at *
    omega
theorem nearTo_mem {T : Tn} {D : Tab} {z : Str} {n : Nat} (hn : n ≤ T.places.length) : ∀ y ∈ nearTo T D z n, y ∈ T.places := fun y hy => by
  unfold nearTo at hy
  obtain ⟨g, hg, rfl⟩ := List.mem_map.mp hy
  have := List.mem_range.mp (List.mem_filter.mp hg).1
  rw [List.getD_eq_getElem?_getD, List.getElem?_eq_getElem (show g < T.places.length by omega)]
  exact List.getElem_mem _


theorem inV_str {z : Str} {ys : List Str} : inV (.str z) (ys.map V.str) = decide (z ∈ ys) := by
  unfold inV
  rw [Bool.eq_iff_iff, List.any_eq_true, decide_eq_true_eq]
  constructor
  · rintro ⟨v, hv, e⟩
    obtain ⟨y, hy, rfl⟩ := List.mem_map.mp hv
    have e' : y = z := by simpa [eqV] using e
    exact e' ▸ hy
  · intro h
    exact ⟨.str z, List.mem_map.mpr ⟨z, h, rfl⟩, by simp [eqV]⟩
theorem flat_strs (ys : List Str) : (ys.map V.str).all flatV = true := by
  rw [List.all_eq_true]
  intro v hv
  obtain ⟨y, _, rfl⟩ := List.mem_map.mp hv
  rfl
theorem g_notinS {K : PySem.W.Frag} {p : Addr} {z : Str} {ys : List Str} {H : Hp} {Q : VK} (h : H p = some (.lst (ys.map V.str))) (q : Q (.bl (decide (z ∉ ys))) H) : uIn K true (.str z) (.ref p) H Q :=
  .inl ⟨p, _, rfl, .inl (lst_sq h), rfl, flat_strs ys, by rw [if_pos rfl, inV_str]; simpa using q⟩
theorem flat_len {α β : Type} (f : α → List β) (b : Nat) : ∀ (ws : List α), (∀ w ∈ ws, (f w).length ≤ b) → (ws.flatMap f).length ≤ ws.length * b
  | [], _ => by simp
  | w :: ws, h => by
    have h1 := h w List.mem_cons_self
    have h2 := flat_len f b ws fun x hx => h x (List.mem_cons_of_mem _ hx)
    rw [List.flatMap_cons, List.length_append, List.length_cons, Nat.add_mul]
    omega
def nearOf (T : Tn) (D : Tab) (z : Str) : List Str := nearTo T D z T.places.length
def outOf (T : Tn) (ns : List Str) (n : Nat) : List Str := (T.places.take n).filter fun y => decide (y ∉ ns)
def bareOf (T : Tn) (D : Tab) (ps : List Str) : List Str := outOf T (ps.flatMap (nearOf T D)) T.places.length
theorem outOf_len (T : Tn) (ns : List Str) (n : Nat) : (outOf T ns n).length ≤ T.places.length := by
  unfold outOf
  refine Nat.le_trans (List.length_filter_le _ _) ?_
  rw [List.length_take]
  omega
theorem outOf_mem {T : Tn} {ns : List Str} {n : Nat} : ∀ y ∈ outOf T ns n, y ∈ T.places := fun y h => List.mem_of_mem_take (List.mem_filter.mp h).1
theorem outOf_succ {T : Tn} {ns : List Str} {n : Nat} {y : Str} (h : T.places[n]? = some y) : outOf T ns (n + 1) = outOf T ns n ++ (if y ∉ ns then [y] else []) := by
  unfold outOf
  rw [List.take_succ, h, List.filter_append]
  congr 1
  by_cases e : y ∉ ns
  · rw [if_pos e]; simp [e]
  · rw [if_neg e]; simp at e; simp [e]
/-- the last row of both -/
theorem out_row {K : PySem.W.Frag} {t c ap nr : Addr} {pl y4 y5 : Option V} {T : Tn} {ns : List Str} {H : Hp} {Q : VK} (g2 : Tup H ap (T.places.map V.str)) (p10 : T.places.length ≤ 10) (hn : H nr = some (.lst (ns.map V.str)))
    (q : ∀ l H', H l = none → Keep [] H H' → H' l = some (.lst ((outOf T ns T.places.length).map V.str)) → Q (.ref l) H') :
    CU K (gName 5) (tTest (tOp (uIn K true) (tVar 5) (tVar 3))) (tVar 5) [5] [some (.ref t), some (.ref c), pl, some (.ref nr), y4, y5] Q (.ref ap) H := by
  refine g_CT (S := []) (fun _ h => (List.not_mem_nil h).elim) g2 nin0 ⟨fun i H' acc => acc = (outOf T ns i).map V.str, fun _ _ _ _ => rfl, ?_, ?_⟩
  · rintro L i H2 acc R R0 nL hi k2 eL rfl hR hR0
    rw [List.length_map] at hi
    have hy := pl_get hi
    have hy' : T.places[i]? = some (T.places.getD i "") := by rw [List.getD_eq_getElem?_getD, List.getElem?_eq_getElem hi]; rfl
    have hs := outOf_succ (ns := ns) hy'
    have hl := outOf_len T ns i
    have e3 : (T.places.map V.str).getD i .non = .str (T.places.getD i "") := by rw [List.getD_eq_getElem?_getD, hy]; rfl
    show gName 5 ((T.places.map V.str).getD i .non) _ _ _
    rw [e3]
    generalize T.places.getD i "" = y at hs
    walk_at "sx"
    refine g_notinS (k2 _ _ nin0 hn) ⟨_, rfl, ?_⟩
    by_cases h : y ∉ ns
    · rw [decide_eq_true h, if_pos rfl]
      rw [if_pos h] at hs
      exact hR _ _ (Keep.refl _ _) (by rw [List.length_map]; exact len_lt (by omega)) fun H5 _ => by show _ = _; rw [hs, List.map_append]; rfl
    · rw [decide_eq_false h, if_neg (by decide)]
      rw [if_neg h, List.append_nil] at hs
      exact hR0 _ (Keep.refl _ _) (by show _ = _; rw [hs])
  · rintro L H2 acc nL k2 eL rfl
    rw [List.length_map] at eL
    exact q L H2 nL k2 eL
def spBare : Sp := fun vs H Q _ => ∃ (t c pl : Addr) (T : Tn) (D : Tab) (ps : List Str), vs = [.ref t, .ref c, .ref pl] ∧ TnAt H t T ∧ T.places.length ≤ 10 ∧ ChAt H c T.places.length D ∧ (H pl = some (.lst (ps.map V.str)) ∨ Tup H pl (ps.map V.str)) ∧ ps.length ≤ 30 ∧ (∀ z ∈ ps, z ∈ T.places) ∧
  ∀ l H', H l = none → Keep [] H H' → H' l = some (.lst ((bareOf T D ps).map V.str)) → Q (.ref l) H'
theorem rd_bare (K : PySem.W.Frag) : ∀ vs H Q E, spBare vs H Q E → run (t_bare K spReached) (L2.start N_bare vs) H Q := by
  rintro _ H Q _ ⟨t, c, pl, T, D, ps, rfl, hT, p10, hc, hp, lp, mp, q⟩
  show run (t_bare K spReached) [some (.ref t), some (.ref c), some (.ref pl), none, none, none] H Q
  have hT0 := hT
  obtain ⟨ap, ar, as, rv, g1, g2, g3, g4, g5⟩ := hT
  have nl : ∀ z, (nearOf T D z).length ≤ 10 := fun z => Nat.le_trans (nearTo_len T D z _) p10
  unfold t_bare
  walk_at "sx"
  refine e_lc2U.mpr ?_
  walk_at "sx"
  refine g_C2 ps (nearOf T D) hp (fun _ => rfl) (fun _ _ => rfl) (fun _ => rfl) (fun _ _ => rfl) (fun ws _ l => ?_) (fun z _ => ?_) (fun z hz H3 Q1 k3 q1 => ?_) fun nr H2 n2 k2 e2 => ?_
  · have := flat_len (nearOf T D) 10 ws fun w _ => nl w
    omega
  · have := nl z
    omega
  · show tGo spReached E0 _ [some (.ref t), some (.ref c), some (.ref pl), none, some (.str z), none] H3 Q1
    walk_at "sx"
    exact ⟨t, c, z, T, D, rfl, hT0.keep k3 noTup0, p10, mp z hz, hc.keep k3, fun l H4 n4 k4 e4 => q1 l H4 n4 k4 e4⟩
  · walk_at "sx"
    refine g_ixT (g1.keep k2 nin0) (at_lit 0 rfl rfl) <| out_row (g2.keep k2 nin0) p10 e2 fun l H3 n3 k3 e3 => q l H3 (k2.free nin0 n3) (k2.trans k3) e3
def spLost : Sp := fun vs H Q _ => ∃ (t c : Addr) (T : Tn) (D : Tab), vs = [.ref t, .ref c] ∧ TnAt H t T ∧ T.places.length ≤ 10 ∧ ChAt H c T.places.length D ∧ T.stands.length ≤ 30 ∧ (∀ z ∈ T.stands, z ∈ T.places) ∧
  ∀ l H', H l = none → Keep [] H H' → H' l = some (.lst ((bareOf T D T.stands).map V.str)) → Q (.ref l) H'
theorem rd_lost (K : PySem.W.Frag) : ∀ vs H Q E, spLost vs H Q E → run (t_lost K spBare) (L2.start N_lost vs) H Q := by
  rintro _ H Q _ ⟨t, c, T, D, rfl, hT, p10, hc, ls, ms, q⟩
  show run (t_lost K spBare) [some (.ref t), some (.ref c)] H Q
  have hT0 := hT
  obtain ⟨ap, ar, as, rv, g1, g2, g3, g4, g5⟩ := hT
  unfold t_lost
  walk_at "sx"
  exact g_ixT g1 (at_lit 2 rfl rfl) ⟨t, c, as, T, D, T.stands, rfl, hT0, p10, hc, .inr g5, ls, ms, q⟩
theorem str_ok {y : Str} (h : NmS 30 y) : PyData.strOk y = true := by
  unfold PyData.strOk
  rw [← Array.all_toList, List.all_eq_true]
  intro ch hc
  have := h.2 ch hc
  exact decide_eq_true (by omega)
theorem lay_strs : ∀ {ys : List Str}, (∀ y ∈ ys, NmS 30 y) → PyData.canLayAll0 (ys.map PyData.str) = true ∧ PyData.depthAll (ys.map PyData.str) ≤ 0
  | [], _ => ⟨rfl, by simp [PyData.depthAll]⟩
  | y :: ys, h => by
    obtain ⟨h1, h2⟩ := lay_strs fun z hz => h z (List.mem_cons_of_mem _ hz)
    refine ⟨by simp [PyData.canLayAll0, PyData.canLay0, h1, str_ok (h y List.mem_cons_self)], ?_⟩
    simp [PyData.depthAll, PyData.depth] at *
    omega
theorem Two.keepP {H H' : Hp} {L1 L2 t1 t2 c1 c2 d c : Addr} {n : Nat} {T : Tn} {r2 : Int} {D1 D2 : Tab} (h : Two H L1 L2 t1 t2 c1 c2 T r2 D1 D2) (p : PenOk H d c n) (k : Keep [d] H H') : Two H' L1 L2 t1 t2 c1 c2 T r2 D1 D2 :=
  ⟨k _ _ (nin1 (p.neL h.l1)) h.l1, k _ _ (nin1 (p.neL h.l2)) h.l2, h.t1.keep k p.noTup, h.t2.keep k p.noTup, h.c1.keepS k p.noTup, h.c2.keepS k p.noTup⟩


/-! ### {k: v for x in xs} over a list or a tuple that stands still -/
def DB (J : It) (g : TG) (tt : TT) (tk tv : TE) (vs : List Nat) (σ : L2.St) (Q : VK) (H1 : Hp) : Prop := ∀ D, H1 D = none → ∃ W : Nat → Nat → Hp → Prop, (∃ m, W 0 m (upd H1 D (.dK []))) ∧ ∀ i m H, W i m H →
  (J.stop i H ∧ Q (.ref D) H) ∨ (J.go i H ∧ ∃ Nx : Hp → Prop, (∀ H', Nx H' → ∃ m', m' < m ∧ W (i + 1) m' H') ∧ ∀ x H', J.yld i H x H' → g x (wipe σ vs) H' fun σ2 H2 => wipe σ2 vs = wipe σ vs ∧ tt σ2 H2 fun b H3 =>
    if b = true then tk σ2 H3 fun y H4 => tv σ2 H4 fun z H5 => ∃ kvs k, y = kV k ∧ H5 D = some (.dK kvs) ∧ kvs.length < sizeLine ∧ Nx (upd H5 D (.dK (putK kvs k z))) else Nx H3)
def DU (K : PySem.W.Frag) (g : TG) (tt : TT) (tk tv : TE) (vs : List Nat) (σ : L2.St) (Q : VK) (x : V) (H1 : Hp) : Prop := iU K (tC x) σ H1 fun J H1 => DB J g tt tk tv vs σ Q H1
theorem e_dcU {K : PySem.W.Frag} {tl tk tv : TE} {g : TG} {tt : TT} {vs : List Nat} {σ : L2.St} {H : Hp} {Q : VK} : tDc (iU K tl) g tt tk tv vs σ H Q ↔ tl σ H (DU K g tt tk tv vs σ Q) := Iff.rfl
theorem g_DC {K : PySem.W.Frag} {α : Type} {RR : Hp → V → α → Prop} {g : TG} {tk tv : TE} {vs : List Nat} {σ : L2.St} {H1 : Hp} {Q : VK} {a : Addr} {xs : List V} {rs : List α} (hx : Sq H1 a xs) (he : EI (RR H1) xs rs)
    (hk : ∀ H H' x r, RR H x r → Keep [] H H' → RR H' x r) (P : Nat → Hp → List (Key × V) → Prop) (p0 : ∀ D H2, H1 D = none → Keep [] H1 H2 → P 0 H2 [])
    (ps : ∀ D i x r H kvs (R : V → VK), H1 D = none → rs[i]? = some r → Keep [] H1 H → H D = some (.dK kvs) → RR H x r → P i H kvs →
      (∀ k z H5, Keep [] H H5 → kvs.length < sizeLine → (∀ H6, Keep [D] H5 H6 → H6 D = some (.dK (putK kvs k z)) → P (i + 1) H6 (putK kvs k z)) → R (kV k) z H5) → g x (wipe σ vs) H fun σ2 H2 => wipe σ2 vs = wipe σ vs ∧ tk σ2 H2 fun y H4 => tv σ2 H4 (R y))
    (pd : ∀ D H kvs, H1 D = none → Keep [] H1 H → H D = some (.dK kvs) → P rs.length H kvs → Q (.ref D) H) : DU K g tYes tk tv vs σ Q (.ref a) H1 := by
  have main : ∀ J : It, (∀ i H, i < xs.length → Keep [] H1 H → J.go i H) → (∀ i H x H', i < xs.length → Keep [] H1 H → J.yld i H x H' → xs[i]? = some x ∧ H' = H) → (∀ H, Keep [] H1 H → J.stop xs.length H) → DB J g tYes tk tv vs σ Q H1 := by
    intro J go yl st D hD
    refine ⟨fun i m H => m = xs.length - i ∧ i ≤ xs.length ∧ Keep [] H1 H ∧ ∃ kvs, H D = some (.dK kvs) ∧ P i H kvs, ⟨xs.length, by omega, by omega, Keep.new hD, [], upd_same, p0 D _ hD (Keep.new hD)⟩, ?_⟩
    rintro i m H ⟨rfl, hi, k, kvs, eD, p⟩
    by_cases hlt : i < xs.length
    · refine .inr ⟨go i H hlt k, fun H' => i + 1 ≤ xs.length ∧ Keep [] H1 H' ∧ ∃ kvs, H' D = some (.dK kvs) ∧ P (i + 1) H' kvs, fun H' q => ⟨xs.length - (i + 1), by omega, rfl, q⟩, fun x H' y => ?_⟩
      obtain ⟨ex, rfl⟩ := yl i H x H' hlt k y
      obtain ⟨r, e1, e2⟩ := ei_got he ex
      have step := ps D i x r H' kvs (fun y z H5 => ∃ kvs k, y = kV k ∧ H5 D = some (.dK kvs) ∧ kvs.length < sizeLine ∧ (i + 1 ≤ xs.length ∧ Keep [] H1 (upd H5 D (.dK (putK kvs k z))) ∧ ∃ kvs', upd H5 D (.dK (putK kvs k z)) D = some (.dK kvs') ∧ P (i + 1) (upd H5 D (.dK (putK kvs k z))) kvs')) hD e1 k eD (hk _ _ _ _ e2 k) p
        fun kk z H5 k5 l5 q => ⟨kvs, kk, rfl, k5 _ _ nin0 eD, l5, hlt, (k.trans k5).past Keep.set hD, _, upd_same, q _ Keep.set upd_same⟩
      exact step
    · have e : i = xs.length := by omega
      subst e
      exact .inl ⟨st H k, pd D H kvs hD k eD (by rw [← he.length]; exact p)⟩
  rcases hx with h | h
  · exact .inl ⟨a, xs, rfl, lst_sq h, main _ (fun i H hi k => ⟨xs, xs[i], lst_sq (k _ _ nin0 h), List.getElem?_eq_getElem hi⟩) (fun i H x H' hi k y => ⟨y.2 xs (lst_sq (k _ _ nin0 h)), y.1⟩) fun H k => ⟨xs, lst_sq (k _ _ nin0 h), Nat.le_refl _⟩⟩
  · exact .inr (.inl ⟨a, xs, rfl, h.sq, main _ (fun i H hi k => ⟨xs, xs[i], (h.keep k nin0).sq, List.getElem?_eq_getElem hi⟩) (fun i H x H' hi k y => ⟨y.2 xs (h.keep k nin0).sq, y.1⟩) fun H k => ⟨xs, (h.keep k nin0).sq, Nat.le_refl _⟩⟩)


/-! ### what is near, as an object -/
theorem ei_map {α β : Type} {R : β → α → Prop} (f : α → β) (h : ∀ x, R (f x) x) : ∀ xs : List α, EI R (xs.map f) xs
  | [] => .nil
  | x :: xs => .cons (h x) (ei_map f h xs)
/-- a dict used as a set of texts -/
def SetD (H : Hp) (d : Addr) (ns : List Str) : Prop := ∃ kvs : List (Key × V), H d = some (.dK kvs) ∧ kvs.length ≤ ns.length ∧ (∀ z : Str, (valV kvs (Sum.inr z)).isSome = decide (z ∈ ns)) ∧ ∀ p ∈ kvs, p.2 = V.bl true
theorem SetD.keep {S : List Addr} {H H' : Hp} {d : Addr} {ns : List Str} (h : SetD H d ns) (k : Keep S H H') (n : d ∉ S) : SetD H' d ns := let ⟨kvs, a, b⟩ := h; ⟨kvs, k _ _ n a, b⟩
theorem put_len (kvs : List (Key × V)) (k : Key) (v : V) : (putK kvs k v).length ≤ kvs.length + 1 := length_putK kvs k v
theorem put_set {kvs : List (Key × V)} {ns : List Str} {z : Str} {v : V} (h : ∀ y : Str, (valV kvs (Sum.inr y)).isSome = decide (y ∈ ns)) : ∀ y : Str, (valV (putK kvs (Sum.inr z) v) (Sum.inr y)).isSome = decide (y ∈ ns ++ [z]) := fun y => by
  rw [valV_put]
  by_cases e : y = z
  · subst e
    simp
  · rw [if_neg (fun c => e (by injection c)), h y]
    simp [e]
theorem merge_some : ∀ (more kvs : List (Key × V)) (k : Key), (valV (mergeK kvs more) k).isSome = ((valV kvs k).isSome || (valV more k).isSome)
  | [], kvs, k => by simp [mergeK, valV_nil]
  | p :: more, kvs, k => by
    have ih := merge_some more (putK kvs p.1 p.2) k
    have e : mergeK kvs (p :: more) = mergeK (putK kvs p.1 p.2) more := rfl
    rw [e, ih, valV_put]
    by_cases h : k = p.1
    · rw [if_pos h, valV_pos h.symm]
      simp
    · rw [if_neg h, valV_neg (fun z => h z.symm)]
theorem all_true {kvs : List (Key × V)} (h : ∀ p ∈ kvs, p.2 = V.bl true) : ∀ k v, valV kvs k = some v → v = .bl true := fun k v e => by
  unfold valV at e
  obtain ⟨p, hp, rfl⟩ := Option.map_eq_some_iff.mp e
  exact h p (List.mem_of_find?_eq_some hp)
theorem put_allN {kvs : List (Key × V)} {k0 : Key} {x : V} (h : ∀ p ∈ kvs, p.2 = V.bl true) (hx : x = .bl true) : ∀ p ∈ putK kvs k0 x, p.2 = V.bl true := fun p hp => by
  unfold putK at hp
  split at hp
  · obtain ⟨u, hu, rfl⟩ := List.mem_map.mp hp
    by_cases e : u.1 = k0
    · rw [if_pos e]; exact hx
    · rw [if_neg e]; exact h u hu
  · rcases List.mem_append.mp hp with hp | hp
    · exact h p hp
    · rw [List.mem_singleton.mp hp]; exact hx
theorem merge_all : ∀ (more kvs : List (Key × V)), (∀ p ∈ more, p.2 = V.bl true) → (∀ p ∈ kvs, p.2 = V.bl true) → ∀ p ∈ mergeK kvs more, p.2 = V.bl true
  | [], kvs, _, h => h
  | q :: more, kvs, hm, h => merge_all more (putK kvs q.1 q.2) (fun p hp => hm p (List.mem_cons_of_mem _ hp)) (put_allN h (hm q List.mem_cons_self))
theorem merge_set {kvs more : List (Key × V)} {ns ms : List Str} (h : ∀ y : Str, (valV kvs (Sum.inr y)).isSome = decide (y ∈ ns)) (h2 : ∀ y : Str, (valV more (Sum.inr y)).isSome = decide (y ∈ ms)) : ∀ y : Str, (valV (mergeK kvs more) (Sum.inr y)).isSome = decide (y ∈ ns ++ ms) := fun y => by
  rw [merge_some, h, h2]
  simp [List.mem_append]
def goalsOf (T : Tn) (D : Tab) : List Str := outOf T (bareOf T D T.stands) T.places.length
def TabD (H : Hp) (tb : Addr) (T : Tn) (D : Tab) : Prop := ∃ kvs : List (Key × V), H tb = some (.dK kvs) ∧ ∀ z ∈ T.places, ∃ e, valV kvs (Sum.inr z) = some (.ref e) ∧ SetD H e (nearOf T D z)
theorem TabD.keep {H H' : Hp} {tb : Addr} {T : Tn} {D : Tab} (h : TabD H tb T D) (k : Keep [] H H') : TabD H' tb T D := by
  obtain ⟨kvs, a, b⟩ := h
  refine ⟨kvs, k _ _ nin0 a, fun z hz => ?_⟩
  obtain ⟨e, x, y⟩ := b z hz
  exact ⟨e, x, y.keep k nin0⟩
structure NearAt (C : Addr) (H : Hp) (i : Addr) (T : Tn) (D : Tab) : Prop where
  ob : ∃ dx fs g tb, H i = some (.ins C dx fs) ∧ fs.lookup ("goals" : Str) = some (.ref g) ∧ fs.lookup ("table" : Str) = some (.ref tb) ∧ (∀ m : Str, m ≠ "goals" → m ≠ "table" → fs.lookup m = none) ∧ H g = some (.lst ((goalsOf T D).map V.str)) ∧ TabD H tb T D
theorem NearAt.keep {C : Addr} {H H' : Hp} {i : Addr} {T : Tn} {D : Tab} (h : NearAt C H i T D) (k : Keep [] H H') : NearAt C H' i T D := by
  obtain ⟨dx, fs, g, tb, a, b, c, d, e, f⟩ := h
  exact ⟨dx, fs, g, tb, k _ _ nin0 a, b, c, d, k _ _ nin0 e, f.keep k⟩
theorem Tup.neI {H : Hp} {a b C dx : Addr} {xs : List V} {fs : List (Str × V)} (h : Tup H a xs) (h' : H b = some (.ins C dx fs)) : a ≠ b := fun z => by
  obtain ⟨o1, e1, _⟩ := h
  rw [z, h'] at e1
  cases e1
theorem noTupI {H : Hp} {b C dx : Addr} {fs : List (Str × V)} (h : H b = some (.ins C dx fs)) : NoTup [b] H := fun _ _ t => nin1 (t.neI h)
theorem nGT : ¬ ("goals" : Str) = "table" := by decide +kernel
theorem nLT : ¬ ("lacking" : Str) = "table" := by decide +kernel
theorem nLG : ¬ ("lacking" : Str) = "goals" := by decide +kernel
def spNearNew (C : Addr) : Sp := fun vs H Q _ => ∃ (i t c dx : Addr) (T : Tn) (D : Tab), vs = [.ref i, .ref t, .ref c] ∧ H i = some (.ins C dx []) ∧ TnAt H t T ∧ T.places.length ≤ 10 ∧ ChAt H c T.places.length D ∧ T.stands.length ≤ 30 ∧ (∀ z ∈ T.stands, z ∈ T.places) ∧
  ∀ H', Keep [i] H H' → NearAt C H' i T D → Q .non H'
theorem rd_nearNew (K : PySem.W.Frag) {C : Addr} (cl : Cls K C) (n1 : NoAttr K C "goals") (n2 : NoAttr K C "table") : ∀ vs H Q E, spNearNew C vs H Q E → run (t_Near____init__ K spLost spReached) (L2.start N_Near____init__ vs) H Q := by
  rintro _ H Q _ ⟨i, t, c, dx, T, D, rfl, hi, hT, p10, hc, ls, ms, q⟩
  show run (t_Near____init__ K spLost spReached) [some (.ref i), some (.ref t), some (.ref c), none, none, none] H Q
  unfold t_Near____init__
  walk_at "sx"
  refine ⟨t, c, T, D, rfl, hT, p10, hc, ls, ms, fun l H1 m1 k1 e1 => ?_⟩
  walk_at "sx"
  have hT1 := hT.keep k1 noTup0
  obtain ⟨ap, ar, as, rv, g1, g2, g3, g4, g5⟩ := hT1
  unfold sFld
  walk_at "sx"
  refine g_ixT g1 (at_lit 0 rfl rfl) ?_
  refine g_CE (RR := fun _ (x : V) (y : Str) => x = V.str y) (.inr g2) (ei_map V.str (fun _ => rfl) T.places) (fun _ _ _ _ h _ => h) (fun j H' acc => acc = (outOf T (bareOf T D T.stands) j).map V.str) (fun _ _ _ _ => rfl) ?_ ?_
  · rintro L j _ y H2 acc R R0 nL hy k2 eL rfl rfl hR hR0
    have hs := outOf_succ (ns := bareOf T D T.stands) hy
    have hl := outOf_len T (bareOf T D T.stands) j
    walk_at "sx"
    refine g_notinS (k2 _ _ nin0 e1) ⟨_, rfl, ?_⟩
    by_cases h : y ∉ bareOf T D T.stands
    · rw [decide_eq_true h, if_pos rfl]
      rw [if_pos h] at hs
      exact hR _ _ (Keep.refl _ _) (by rw [List.length_map]; exact len_lt (by omega)) fun H5 _ => by rw [hs, List.map_append]; rfl
    · rw [decide_eq_false h, if_neg (by decide)]
      rw [if_neg h, List.append_nil] at hs
      exact hR0 _ (Keep.refl _ _) (by rw [hs])
  rintro g H2 acc ng k2 eg rfl
  have k12 := k1.trans k2
  have hi2 := k12 _ _ nin0 hi
  refine ⟨i, C, dx, [], rfl, hi2, cl, n1, by decide, ?_⟩
  have kI : Keep [i] H2 (upd H2 i (.ins C dx (putF "goals" (.ref g) []))) := Keep.set
  have eI : upd H2 i (.ins C dx (putF "goals" (.ref g) [])) i = some (.ins C dx (putF "goals" (.ref g) [])) := upd_same
  generalize hH3 : upd H2 i (.ins C dx (putF "goals" (.ref g) [])) = H3 at kI eI ⊢
  clear hH3
  have nt := noTupI hi2
  have hT3 : TnAt H3 t T := (hT.keep k12 noTup0).keep kI nt
  have hc3 : ChAt H3 c T.places.length D := (hc.keep k12).keepS kI nt
  have g13 := (g1.keep k2 nin0).keep kI (nt _ _ (g1.keep k2 nin0))
  have g23 := (g2.keep k2 nin0).keep kI (nt _ _ (g2.keep k2 nin0))
  refine e_dcU.mpr ?_
  walk_at "sx"
  refine g_ixT g13 (at_lit 0 rfl rfl) ?_
  refine g_DC (RR := fun _ (x : V) (y : Str) => x = V.str y) (.inr g23) (ei_map V.str (fun _ => rfl) T.places) (fun _ _ _ _ h _ => h) (fun j H' kvs => kvs.length ≤ j ∧ ∀ z ∈ T.places.take j, ∃ e, valV kvs (Sum.inr z) = some (.ref e) ∧ SetD H' e (nearOf T D z)) (fun _ _ _ _ => ⟨Nat.le_refl _, fun _ h => by simp at h⟩) ?_ ?_
  · rintro L j _ y H4 kvs R nL hy k4 eL rfl ⟨hl, hP⟩ hR
    have hyp := List.mem_of_getElem? hy
    have hj := (List.getElem?_eq_some_iff.mp hy).1
    walk_at "sx"
    refine e_dcU.mpr ?_
    walk_at "sx"
    refine ⟨t, c, y, T, D, rfl, hT3.keep k4 noTup0, p10, hyp, hc3.keep k4, fun l2 H5 n5 k5 e5 => ?_⟩
    have nl2 := nearTo_len T D y T.places.length
    refine g_DC (RR := fun _ (x : V) (y : Str) => x = V.str y) (.inl e5) (ei_map V.str (fun _ => rfl) _) (fun _ _ _ _ h _ => h) (fun j H' kvs => kvs.length ≤ j ∧ (∀ z : Str, (valV kvs (Sum.inr z)).isSome = decide (z ∈ (nearOf T D y).take j)) ∧ ∀ p ∈ kvs, p.2 = V.bl true) (fun _ _ _ _ => ⟨Nat.le_refl _, fun z => by simp [valV_nil], fun _ h => (List.not_mem_nil h).elim⟩) ?_ ?_
    · rintro L2 j2 _ x H6 kv R2 nL2 hx k6 eL2 rfl ⟨hl2, hP2, hA2⟩ hR2
      walk_at "sx"
      have hj2 := (List.getElem?_eq_some_iff.mp hx).1
      refine hR2 (Sum.inr x) _ _ (Keep.refl _ _) (len_lt (by omega)) fun H7 _ _ => ⟨by have := put_len kv (Sum.inr x) (.bl true); omega, fun z => ?_, put_allN hA2 rfl⟩
      have := put_set (z := x) (v := .bl true) hP2 z
      rw [this]
      have e : (nearOf T D y).take (j2 + 1) = (nearOf T D y).take j2 ++ [x] := by
        rw [List.take_succ]
        have : (nearOf T D y)[j2]? = some x := hx
        rw [this]
        rfl
      rw [e]
    · rintro d2 H6 kv n6 k6 e6 ⟨hl2, hP2, hA2⟩
      have hfull : (nearOf T D y).take (nearTo T D y T.places.length).length = nearOf T D y := List.take_length
      refine hR (Sum.inr y) (.ref d2) H6 (k5.trans k6) (len_lt (by omega)) fun H7 k7 _ => ⟨by have := put_len kvs (Sum.inr y) (.ref d2); omega, fun z hz => ?_⟩
      have nLd : d2 ≠ L := (ne_of_none (k5 _ _ nin0 eL) n6).symm
      have hset : SetD H7 d2 (nearOf T D y) := ⟨kv, k7 _ _ (nin1 nLd) e6, by have : (nearOf T D y).length = (nearTo T D y T.places.length).length := rfl; omega, fun z => by rw [hP2 z, hfull], hA2⟩
      rw [List.take_succ, hy] at hz
      by_cases e : z = y
      · subst e
        exact ⟨d2, by rw [valV_put, if_pos rfl], hset⟩
      · have hz' : z ∈ T.places.take j := (List.mem_append.mp hz).elim id fun h => absurd (by simpa using h) e
        obtain ⟨d3, v3, s3⟩ := hP z hz'
        refine ⟨d3, by rw [valV_put, if_neg (fun c => e (by injection c))]; exact v3, ?_⟩
        have s6 := s3.keep (k5.trans k6) nin0
        refine s6.keep k7 (nin1 fun c => ?_)
        obtain ⟨kv3, a3, _, _, t3⟩ := s3
        rw [c, eL] at a3
        cases a3
        have := all_true t3 _ _ v3
        cases this
  · rintro tb H4 kvs nb k4 eb ⟨hl, hP⟩
    rw [List.take_length] at hP
    have eI4 := k4 _ _ nin0 eI
    refine ⟨i, C, dx, _, rfl, eI4, cl, n2, Nat.lt_of_le_of_lt (show (putF "goals" (V.ref g) []).length ≤ 1 from Nat.le_refl _) (by decide), ?_⟩
    have kJ : Keep [i] H4 (upd H4 i (.ins C dx (putF "table" (.ref tb) (putF "goals" (.ref g) [])))) := Keep.set
    have eJ : upd H4 i (.ins C dx (putF "table" (.ref tb) (putF "goals" (.ref g) []))) i = some (.ins C dx (putF "table" (.ref tb) (putF "goals" (.ref g) []))) := upd_same
    have ngi : g ≠ i := fun z => by rw [z, hi2] at eg; cases eg
    have nbi : tb ≠ i := fun z => by rw [z, eI4] at eb; cases eb
    refine q _ (k12.all.trans (kI.trans (k4.all.trans kJ))) ⟨dx, _, g, tb, eJ, by rw [lookup_putF, if_neg nGT, lookup_putF, if_pos rfl], by rw [lookup_putF, if_pos rfl], fun m h1 h2 => by rw [lookup_putF, if_neg h2, lookup_putF, if_neg h1]; rfl, kJ _ _ (nin1 ngi) (k4 _ _ nin0 (kI _ _ (nin1 ngi) eg)), kvs, kJ _ _ (nin1 nbi) eb, fun z hz => ?_⟩
    obtain ⟨e, v, st⟩ := hP z hz
    refine ⟨e, v, st.keep kJ (nin1 fun c => ?_)⟩
    obtain ⟨kv', a', _⟩ := st
    rw [c, eI4] at a'
    cases a'


def lackOf (T : Tn) (D : Tab) (ps : List Str) : List Str := (goalsOf T D).filter fun y => decide (y ∉ ps.flatMap (nearOf T D))
theorem flt_next {α : Type} {p : α → Bool} {l : List α} {i : Nat} {x : α} (h : l[i]? = some x) : (l.take (i + 1)).filter p = (l.take i).filter p ++ (if p x = true then [x] else []) := by
  rw [List.take_succ, h, List.filter_append]
  congr 1
  by_cases e : p x = true
  · simp [e]
  · simp [e]
theorem flt_len {α : Type} {p : α → Bool} {l : List α} {i : Nat} : ((l.take i).filter p).length ≤ l.length := Nat.le_trans (List.length_filter_le _ _) (by rw [List.length_take]; omega)
def spNearLack (C : Addr) : Sp := fun vs H Q _ => ∃ (i pl : Addr) (T : Tn) (D : Tab) (ps : List Str), vs = [.ref i, .ref pl] ∧ NearAt C H i T D ∧ T.places.length ≤ 10 ∧ H pl = some (.lst (ps.map V.str)) ∧ (∀ z ∈ ps, z ∈ T.places) ∧ ps.length ≤ 20 ∧
  ∀ l H', H l = none → Keep [] H H' → H' l = some (.lst ((lackOf T D ps).map V.str)) → Q (.ref l) H'
theorem rd_nearLack (K : PySem.W.Frag) {C : Addr} (cl : Cls K C) (n1 : NoAttr K C "goals") (n2 : NoAttr K C "table") : ∀ vs H Q E, spNearLack C vs H Q E → run (t_Near__lacking K) (L2.start N_Near__lacking vs) H Q := by
  rintro _ H Q _ ⟨i, pl, T, D, ps, rfl, na, p10, hp, mp, lp, q⟩
  show run (t_Near__lacking K) [some (.ref i), some (.ref pl), none, none, none] H Q
  unfold t_Near__lacking
  walk_at "sx"
  intro f H1 nf k1 e1
  walk_at "sx"
  have ntr : ∀ z ∈ ps, (nearOf T D z).length ≤ 10 := fun z _ => Nat.le_trans (nearTo_len T D z _) p10
  have npf : pl ≠ f := ne_of_none hp nf
  refine g_FEs (RR := fun _ (x : V) (y : Str) => x = V.str y) [f] (.inl (k1 _ _ nin0 hp)) (nin1 npf) (ei_map V.str (fun _ => rfl) ps) (fun _ _ _ h _ => h) (fun j σ H' => ∃ y3, σ = [some (.ref i), some (.ref pl), some (.ref f), y3, none] ∧ ∃ kvs, H' f = some (.dK kvs) ∧ kvs.length ≤ 10 * j ∧ (∀ z : Str, (valV kvs (Sum.inr z)).isSome = decide (z ∈ (ps.take j).flatMap (nearOf T D)))) ⟨_, rfl, [], e1, Nat.le_refl _, fun z => by simp [valV_nil]⟩ ?_ ?_
  · rintro j _ z σ H2 hz k2 rfl ⟨y3, rfl, kvs, ef, hl, hP⟩
    have hzp := List.mem_of_getElem? hz
    have hj := (List.getElem?_eq_some_iff.mp hz).1
    walk_at "sx"
    unfold t_Near__lacking_b1
    walk_at "sx"
    unfold tFld
    walk_at "sx"
    have k02 : Keep [] H H2 := k1.past k2 nf
    obtain ⟨dx, fs, g, tb, a1, a2, a3, a4, a5, a6⟩ := na.ob
    obtain ⟨tk, b1, b2⟩ := a6
    obtain ⟨e, v, st⟩ := b2 z (mp z hzp)
    refine ⟨.inr (.inr (.inl ⟨rfl, .inl ⟨_, ef⟩⟩)), i, C, dx, fs, _, rfl, k02 _ _ nin0 a1, cl, n2, a3, tb, .ref e, rfl, ?_, ?_⟩
    · have := DGet.k (k := (Sum.inr z : Key)) (k02 _ _ nin0 b1)
      rw [v] at this
      exact this
    · obtain ⟨kve, c1, c2, c3, c4⟩ := st
      have nfe : f ≠ e := (ne_of_none c1 nf).symm
      have := ntr z hzp
      refine ⟨f, e, kvs, kve, rfl, rfl, nfe, ef, k02 _ _ nin0 c1, len_le (by omega), fun H3 k3 e3 => ⟨k2.trans k3, _, rfl, _, e3, ?_, ?_⟩⟩
      · have := length_mergeK kve kvs
        omega
      · intro y
        rw [merge_set hP c3, List.take_succ, hz, List.flatMap_append]
        simp
  · rintro σ H2 k2 ⟨y3, rfl, kvs, ef, hl, hP⟩
    rw [List.take_length] at hP
    unfold t_Near__lacking_r1
    walk_at "sx"
    unfold tFld
    walk_at "sx"
    have k02 : Keep [] H H2 := k1.past k2 nf
    obtain ⟨dx, fs, g, tb, a1, a2, a3, a4, a5, a6⟩ := (na.keep k02).ob
    refine ⟨i, C, dx, fs, _, rfl, a1, cl, n1, a2, ?_⟩
    have lg : (goalsOf T D).length ≤ 10 := Nat.le_trans (outOf_len T _ _) p10
    refine g_CE (RR := fun _ (x : V) (y : Str) => x = V.str y) (.inl a5) (ei_map V.str (fun _ => rfl) _) (fun _ _ _ _ h _ => h) (fun j H' acc => acc = (((goalsOf T D).take j).filter fun y => decide (y ∉ ps.flatMap (nearOf T D))).map V.str) (fun _ _ _ _ => rfl) ?_ ?_
    · rintro L j _ y H3 acc R R0 nL hy k3 eL rfl rfl hR hR0
      have nx := flt_next (p := fun y => decide (y ∉ ps.flatMap (nearOf T D))) hy
      walk_at "sx"
      unfold tDNotIn
      walk_at "sx"
      refine ⟨f, _, rfl, DGet.k (k := (Sum.inr y : Key)) (k3 _ _ nin0 ef), ?_⟩
      rw [hP y]
      by_cases h : y ∈ ps.flatMap (nearOf T D)
      · rw [decide_eq_true h, if_neg (by decide)]
        rw [if_neg (by simpa using h), List.append_nil] at nx
        refine hR0 _ (Keep.refl _ _) ?_
        rw [nx]
      · rw [decide_eq_false h, if_pos (by decide)]
        rw [if_pos (by simpa using h)] at nx
        refine hR _ _ (Keep.refl _ _) (by rw [List.length_map]; exact len_lt (by have := flt_len (p := fun y => decide (y ∉ ps.flatMap (nearOf T D))) (l := goalsOf T D) (i := j); omega)) fun H5 _ => ?_
        rw [nx, List.map_append]
        rfl
    · rintro L H3 acc nL k3 eL rfl
      rw [List.take_length] at eL
      exact q L H3 (k02.free nin0 nL) (k02.trans k3) eL
/-! ### the law's own reckoning -/
theorem g_inN {K : PySem.W.Frag} {p : Addr} {z : Str} {ys : List Str} {H : Hp} {Q : VK} (h : H p = some (.lst (ys.map V.str))) (q : Q (.bl (decide (z ∈ ys))) H) : uIn K false (.str z) (.ref p) H Q :=
  .inl ⟨p, _, rfl, .inl (lst_sq h), rfl, flat_strs ys, by rw [if_neg (by decide), inV_str]; exact q⟩
theorem paired_ei {α β : Type} {R : α → β → Prop} : ∀ {xs : List α} {ys : List β}, EI R xs ys → Paired R xs ys
  | _, _, .nil => .nil
  | _, _, .cons h t => .cons h (paired_ei t)
/-! ### the stage, and what is left -/
/-- a comprehension; what holds may name the list that grows -/
theorem g_CED {K : PySem.W.Frag} {α : Type} {RR : Hp → V → α → Prop} {g : TG} {te : TE} {vs : List Nat} {σ : L2.St} {H1 : Hp} {Q : VK} {a : Addr} {xs : List V} {rs : List α} (hx : Sq H1 a xs) (he : EI (RR H1) xs rs)
    (hk : ∀ H H' x r, RR H x r → Keep [] H H' → RR H' x r) (P : Addr → Nat → Hp → List V → Prop) (p0 : ∀ D H2, H1 D = none → Keep [] H1 H2 → P D 0 H2 [])
    (ps : ∀ D i x r H acc (R : VK), H1 D = none → rs[i]? = some r → Keep [] H1 H → H D = some (.lst acc) → RR H x r → P D i H acc →
      (∀ y H4, Keep [] H H4 → acc.length < sizeLine → (∀ H5, Keep [D] H4 H5 → P D (i + 1) H5 (acc ++ [y])) → R y H4) → g x (wipe σ vs) H fun σ2 H2 => wipe σ2 vs = wipe σ vs ∧ te σ2 H2 R)
    (pd : ∀ D H acc, H1 D = none → Keep [] H1 H → H D = some (.lst acc) → P D rs.length H acc → Q (.ref D) H) : CU K g tYes te vs σ Q (.ref a) H1 := by
  have main : ∀ J : It, (∀ i H, i < xs.length → Keep [] H1 H → J.go i H) → (∀ i H x H', i < xs.length → Keep [] H1 H → J.yld i H x H' → xs[i]? = some x ∧ H' = H) → (∀ H, Keep [] H1 H → J.stop xs.length H) → CB J g tYes te vs σ Q H1 := by
    intro J go yl st D hD
    refine ⟨fun i m H => m = xs.length - i ∧ i ≤ xs.length ∧ Keep [] H1 H ∧ ∃ acc, H D = some (.lst acc) ∧ P D i H acc, ⟨xs.length, by omega, by omega, Keep.new hD, [], upd_same, p0 D _ hD (Keep.new hD)⟩, ?_⟩
    rintro i m H ⟨rfl, hi, k, acc, eD, p⟩
    by_cases hlt : i < xs.length
    · refine .inr ⟨go i H hlt k, fun H' => i + 1 ≤ xs.length ∧ Keep [] H1 H' ∧ ∃ acc, H' D = some (.lst acc) ∧ P D (i + 1) H' acc, fun H' q => ⟨xs.length - (i + 1), by omega, rfl, q⟩, fun x H' y => ?_⟩
      obtain ⟨ex, rfl⟩ := yl i H x H' hlt k y
      obtain ⟨r, e1, e2⟩ := ei_got he ex
      exact ps D i x r H' acc _ hD e1 k eD (hk _ _ _ _ e2 k) p fun y H4 k4 z q => ⟨acc, k4 _ _ nin0 eD, z, hlt, (k.trans k4).past Keep.set hD, _, upd_same, q _ Keep.set⟩
    · have e : i = xs.length := by omega
      subst e
      exact .inl ⟨st H k, pd D H acc hD k eD (by rw [← he.length]; exact p)⟩
  rcases hx with h | h
  · exact .inl ⟨a, xs, rfl, lst_sq h, main _ (fun i H hi k => ⟨xs, xs[i], lst_sq (k _ _ nin0 h), List.getElem?_eq_getElem hi⟩) (fun i H x H' hi k y => ⟨y.2 xs (lst_sq (k _ _ nin0 h)), y.1⟩) fun H k => ⟨xs, lst_sq (k _ _ nin0 h), Nat.le_refl _⟩⟩
  · exact .inr (.inl ⟨a, xs, rfl, h.sq, main _ (fun i H hi k => ⟨xs, xs[i], (h.keep k nin0).sq, List.getElem?_eq_getElem hi⟩) (fun i H x H' hi k y => ⟨y.2 xs (h.keep k nin0).sq, y.1⟩) fun H k => ⟨xs, (h.keep k nin0).sq, Nat.le_refl _⟩⟩)
theorem merge_val : ∀ (more kvs : List (Key × V)) (k : Key) (v : V), valV (mergeK kvs more) k = some v → (∃ p ∈ more, p.1 = k ∧ p.2 = v) ∨ valV kvs k = some v
  | [], kvs, k, v, h => .inr h
  | q :: more, kvs, k, v, h => by
    rcases merge_val more (putK kvs q.1 q.2) k v h with ⟨p, h1, h2⟩ | h
    · exact .inl ⟨p, List.mem_cons_of_mem _ h1, h2⟩
    · rw [valV_put] at h
      split at h
      · rename_i e
        exact .inl ⟨q, List.mem_cons_self, e.symm, Option.some.inj h⟩
      · exact .inr h
def NrAt (T : Tn) (D : Tab) (b : Addr) (H : Hp) (kv : Key × V) (z : Str) : Prop := kv.1 = Sum.inr z ∧ ∃ e, kv.2 = .ref e ∧ e ≠ b ∧ H e = some (.lst ((nearOf T D z).map V.str))
theorem nr_keep {T : Tn} {D : Tab} {b : Addr} {H H' : Hp} {kvs : List (Key × V)} {zs : List Str} (h : EI (NrAt T D b H) kvs zs) (k : Keep [b] H H') : EI (NrAt T D b H') kvs zs := h.mono fun _ _ ⟨a, e, x, n, c⟩ => ⟨a, e, x, n, k _ _ (nin1 n) c⟩
def NrD (H : Hp) (d : Addr) (T : Tn) (D : Tab) : Prop := ∃ kvs : List (Key × V), H d = some (.dK kvs) ∧ ∀ z ∈ T.places, ∃ e, valV kvs (Sum.inr z) = some (.ref e) ∧ H e = some (.lst ((nearOf T D z).map V.str))
theorem NrD.keep {H H' : Hp} {d : Addr} {T : Tn} {D : Tab} (h : NrD H d T D) (k : Keep [] H H') : NrD H' d T D := let ⟨kvs, a, b⟩ := h; ⟨kvs, k _ _ nin0 a, fun z hz => let ⟨e, x, y⟩ := b z hz; ⟨e, x, k _ _ nin0 y⟩⟩
theorem nr_merge {T : Tn} {D : Tab} {b : Addr} {H : Hp} {kvs : List (Key × V)} (h : EI (NrAt T D b H) kvs T.places) : ∀ z ∈ T.places, ∃ e, valV (mergeK [] kvs) (Sum.inr z) = some (.ref e) ∧ H e = some (.lst ((nearOf T D z).map V.str)) := fun z hz => by
  have some_ : (valV (mergeK [] kvs) (Sum.inr z)).isSome = true := by
    rw [merge_some]
    have : (valV kvs (Sum.inr z)).isSome = true := by
      rw [← valV_any, List.any_eq_true]
      obtain ⟨i, hi, rfl⟩ := List.getElem_of_mem hz
      obtain ⟨kv, e, hk, _⟩ := ei_get h (List.getElem?_eq_getElem hi)
      exact ⟨kv, List.mem_of_getElem? e, decide_eq_true hk⟩
    rw [this, Bool.or_true]
  obtain ⟨v, hv⟩ := Option.isSome_iff_exists.mp some_
  rcases merge_val kvs [] _ _ hv with ⟨p, hp, h1, h2⟩ | h'
  · obtain ⟨i, hi, rfl⟩ := List.getElem_of_mem hp
    obtain ⟨y, ey, a, e, b, _, c⟩ := ei_got h (List.getElem?_eq_getElem hi)
    have e1 : y = z := by
      have := a.symm.trans h1
      injection this
    subst e1
    exact ⟨e, by rw [hv, ← h2, b], c⟩
  · rw [valV_nil] at h'; cases h'
structure StgAt (H : Hp) (s : Addr) (T : Tn) (D : Tab) : Prop where
  ob : ∃ kvs ap nd gl, H s = some (.dK kvs) ∧ valV kvs (Sum.inr ("places" : Str)) = some (.ref ap) ∧ valV kvs (Sum.inr ("near" : Str)) = some (.ref nd) ∧ valV kvs (Sum.inr ("gone" : Str)) = some (.ref gl) ∧ Tup H ap (T.places.map V.str) ∧ NrD H nd T D ∧ H gl = some (.lst ((bareOf T D T.stands).map V.str))
  st : ∃ kvs as, H s = some (.dK kvs) ∧ valV kvs (Sum.inr ("stands" : Str)) = some (.ref as) ∧ Tup H as (T.stands.map V.str)
theorem nPS : ¬ (Sum.inr ("places" : Str) : Key) = Sum.inr ("stands" : Str) := by decide +kernel
theorem nPN : ¬ (Sum.inr ("places" : Str) : Key) = Sum.inr ("near" : Str) := by decide +kernel
theorem nPG : ¬ (Sum.inr ("places" : Str) : Key) = Sum.inr ("gone" : Str) := by decide +kernel
theorem nSG : ¬ (Sum.inr ("stands" : Str) : Key) = Sum.inr ("gone" : Str) := by decide +kernel
theorem nSN : ¬ (Sum.inr ("stands" : Str) : Key) = Sum.inr ("near" : Str) := by decide +kernel
theorem nNG : ¬ (Sum.inr ("near" : Str) : Key) = Sum.inr ("gone" : Str) := by decide +kernel
theorem any_in {T : Tn} {D : Tab} {z : Str} (ps : List Str) : ((ps.map fun s => decide (z ∈ nearOf T D s)).any id) = decide (z ∈ ps.flatMap (nearOf T D)) := by
  rw [Bool.eq_iff_iff, List.any_eq_true, decide_eq_true_eq, List.mem_flatMap]
  constructor
  · rintro ⟨b, hb, e⟩
    obtain ⟨s, hs, rfl⟩ := List.mem_map.mp hb
    exact ⟨s, hs, of_decide_eq_true e⟩
  · rintro ⟨s, hs, h⟩
    exact ⟨_, List.mem_map.mpr ⟨s, hs, rfl⟩, decide_eq_true h⟩
def NdOf (H : Hp) (s nd : Addr) : Prop := ∃ kvs, H s = some (.dK kvs) ∧ valV kvs (Sum.inr ("near" : Str)) = some (.ref nd)
def spStage : Sp := fun vs H Q _ => ∃ (t c : Addr) (T : Tn) (D : Tab), vs = [.ref t, .ref c] ∧ TnAt H t T ∧ T.places.length ≤ 10 ∧ ChAt H c T.places.length D ∧ T.stands.length ≤ 30 ∧ (∀ z ∈ T.stands, z ∈ T.places) ∧ ∀ s H', H s = none → Keep [] H H' → StgAt H' s T D → (∀ nd, NdOf H' s nd → H nd = none) → Q (.ref s) H'
theorem rd_stage (K : PySem.W.Frag) : ∀ vs H Q E, spStage vs H Q E → run (t__law_stage K spReached) (L2.start N__law_stage vs) H Q := by
  rintro _ H Q _ ⟨t, c, T, D, rfl, hT, p10, hc, ls, ms, q⟩
  show run (t__law_stage K spReached) [some (.ref t), some (.ref c), none, none, none, none] H Q
  have hT0 := hT
  obtain ⟨ap, ar, as, rv, g1, g2, g3, g4, g5⟩ := hT
  unfold t__law_stage
  walk_at "sx"
  refine g_ixT g1 (at_lit 0 rfl rfl) ?_
  refine g_CED (RR := fun _ (x : V) (y : Str) => x = V.str y) (.inr g2) (ei_map V.str (fun _ => rfl) T.places) (fun _ _ _ _ h _ => h) (fun L i H' acc => ∃ (ps : List Addr) (kvs : List (Key × V)), acc = ps.map V.ref ∧ EI (fun p (kv : Key × V) => Tup H' p [kV kv.1, kv.2]) ps kvs ∧ EI (NrAt T D L H') kvs (T.places.take i)) (fun _ _ _ _ => ⟨[], [], rfl, .nil, .nil⟩) ?_ ?_
  · rintro L i _ y H1 acc R nL hy k eL rfl ⟨ps, kvs, rfl, e1, e2⟩ hR
    walk_at "sx"
    have l1 := e1.length
    have l2 := e2.length
    rw [List.length_take] at l2
    refine ⟨t, c, y, T, D, rfl, hT0.keep k noTup0, p10, List.mem_of_getElem? hy, hc.keep k, fun l H2 n2 k2 f2 => ⟨by walk_at "sz", fun z H3 n3 k3 t3 => ?_⟩⟩
    have k23 := k2.trans k3
    refine hR _ _ k23 (by rw [List.length_map]; exact len_lt (by omega)) fun H4 k4 => ?_
    have eL3 := k23 _ _ nin0 eL
    have nlL : l ≠ L := (ne_of_none eL n2).symm
    refine ⟨ps ++ [z], kvs ++ [(Sum.inr y, .ref l)], by rw [List.map_append]; rfl, ?_, ?_⟩
    · exact ei_snoc (R := fun p (kv : Key × V) => Tup H4 p [kV kv.1, kv.2]) (t3.keep k4 (noTup1 eL3 _ _ t3)) (e1.mono fun _ _ h => (h.keep k23 nin0).keep k4 (noTup1 eL3 _ _ (h.keep k23 nin0)))
    · rw [List.take_succ, hy]
      exact ei_snoc (R := NrAt T D L H4) ⟨rfl, l, rfl, nlL, k4 _ _ (nin1 nlL) (k3 _ _ nin0 f2)⟩ (nr_keep (nr_keep e2 k23.all) k4)
  rintro L H1 acc nL k1 eL ⟨ps, kvs, rfl, e1, e2⟩
  rw [List.take_length] at e2
  refine ⟨L, ps, kvs, rfl, lst_sq eL, paired_ei (e1.mono fun _ _ h => h.sq), fun d H2 n2 k2 ed => ?_⟩
  have k12 := k1.trans k2
  have hnr : NrD H2 d T D := ⟨_, ed, nr_merge (nr_keep e2 k2.all)⟩
  walk_at "sx"
  refine g_ixT (g1.keep k12 nin0) (at_lit 0 rfl rfl) ?_
  refine g_CE (RR := fun _ (x : V) (y : Str) => x = V.str y) (.inr (g2.keep k12 nin0)) (ei_map V.str (fun _ => rfl) T.places) (fun _ _ _ _ h _ => h) (fun i H' acc => acc = (outOf T (T.stands.flatMap (nearOf T D)) i).map V.str) (fun _ _ _ _ => rfl) ?_ ?_
  · rintro L2 i _ y H3 acc R R0 nL2 hy k3 eL2 rfl rfl hR hR0
    walk_at "sx"
    have k13 := k12.trans k3
    refine g_ixT (g1.keep k13 nin0) (at_lit 2 rfl rfl) ?_
    refine g_CE (RR := fun _ (x : V) (y : Str) => x = V.str y) (.inr (g5.keep k13 nin0)) (ei_map V.str (fun _ => rfl) T.stands) (fun _ _ _ _ h _ => h) (fun j H' acc => acc = ((T.stands.take j).map fun s => decide (y ∈ nearOf T D s)).map V.bl) (fun _ _ _ _ => rfl) ?_ ?_
    · rintro L3 j _ s H4 acc R' R0' nL3 hs k4 eL3 rfl rfl hR' _
      walk_at "sx"
      obtain ⟨kv, b1, b2⟩ := (hnr.keep k3).keep k4
      obtain ⟨e, v, f⟩ := b2 s (ms s (List.mem_of_getElem? hs))
      refine ⟨d, .ref e, rfl, ?_, ?_⟩
      · have := DGet.k (k := (Sum.inr s : Key)) b1
        rw [v] at this
        exact this
      · refine g_inN f (hR' _ _ (Keep.refl _ _) (by simp only [List.length_map, List.length_take]; exact len_lt (by omega)) fun H5 _ => ?_)
        rw [List.take_succ, hs, List.map_append, List.map_append]
        rfl
    · rintro L3 H4 acc nL3 k4 eL3 rfl
      rw [List.take_length] at eL3
      refine ⟨L3, _, rfl, lst_sq eL3, ⟨_, rfl, ?_⟩⟩
      rw [any_in]
      have hs := outOf_succ (ns := T.stands.flatMap (nearOf T D)) hy
      have hl := outOf_len T (T.stands.flatMap (nearOf T D)) i
      by_cases h : y ∈ T.stands.flatMap (nearOf T D)
      · rw [decide_eq_true h, if_neg (by decide)]
        rw [if_neg (by simpa using h), List.append_nil] at hs
        exact hR0 _ k4 (by rw [hs])
      · rw [decide_eq_false h, if_pos (by decide)]
        rw [if_pos h] at hs
        exact hR _ _ k4 (by rw [List.length_map]; exact len_lt (by omega)) fun H5 _ => by rw [hs, List.map_append]; rfl
  rintro gl H3 acc ng k3 eg rfl
  walk_at "sx"
  unfold tDisp
  have k03 := k12.trans k3
  intro s ns
  have ks : Keep [] H3 (upd H3 s (.dK [])) := Keep.new ns
  have es : (upd H3 s (.dK [])) s = some (.dK []) := upd_same
  generalize upd H3 s (.dK []) = H4 at ks es
  simp only [tPairs]
  walk_at "sx"
  have k04 := k03.trans ks
  refine g_ixT (g1.keep k04 nin0) (at_lit 0 rfl rfl) (g_ixT (g1.keep k04 nin0) (at_lit 2 rfl rfl) ?_)
  walk_at "sx"
  refine ⟨es, [(Sum.inr ("places" : Str), .ref ap), (Sum.inr ("stands" : Str), .ref as), (Sum.inr ("near" : Str), .ref d), (Sum.inr ("gone" : Str), .ref gl)], rfl, by simp, ?_⟩
  have nsd : d ≠ s := ne_of_none (k3 _ _ nin0 ed) ns
  have nsg : gl ≠ s := ne_of_none eg ns
  have k5 : Keep [s] H4 (upd H4 s (.dK (mergeK [] [((Sum.inr ("places" : Str) : Key), V.ref ap), (Sum.inr ("stands" : Str), .ref as), (Sum.inr ("near" : Str), .ref d), (Sum.inr ("gone" : Str), .ref gl)]))) := Keep.set
  have hnr4 := (hnr.keep k3).keep ks
  have em : mergeK [] [((Sum.inr ("places" : Str) : Key), V.ref ap), (Sum.inr ("stands" : Str), .ref as), (Sum.inr ("near" : Str), .ref d), (Sum.inr ("gone" : Str), .ref gl)] = putK (putK (putK (putK ([] : List (Key × V)) (Sum.inr ("places" : Str)) (.ref ap)) (Sum.inr ("stands" : Str)) (.ref as)) (Sum.inr ("near" : Str)) (.ref d)) (Sum.inr ("gone" : Str)) (.ref gl) := rfl
  refine q s _ (k03.free nin0 ns) (k04.past k5 (k03.free nin0 ns)) ⟨⟨_, ap, d, gl, upd_same, ?_, ?_, ?_, ?_, ?_, k5 _ _ (nin1 nsg) (ks _ _ nin0 eg)⟩, _, as, upd_same, ?_, ?_⟩ ?_
  · rw [em, valV_put, if_neg nPG, valV_put, if_neg nPN, valV_put, if_neg nPS, valV_put, if_pos rfl]
  · rw [em, valV_put, if_neg nNG, valV_put, if_pos rfl]
  · rw [em, valV_put, if_pos rfl]
  · have t4 := g2.keep k04 nin0
    exact t4.keep k5 (nin1 (t4.neD es))
  · obtain ⟨kv, b1, b2⟩ := hnr4
    refine ⟨kv, k5 _ _ (nin1 nsd) b1, fun z hz => ?_⟩
    obtain ⟨e, v, f⟩ := b2 z hz
    exact ⟨e, v, k5 _ _ (nin1 fun c => by rw [c, es] at f; cases f) f⟩
  · rw [em, valV_put, if_neg nSG, valV_put, if_neg nSN, valV_put, if_pos rfl]
  · have t4 := g5.keep k04 nin0
    exact t4.keep k5 (nin1 (t4.neD es))
  · rintro nd ⟨kvs, e, v⟩
    rw [upd_same] at e
    have e' : mergeK [] [((Sum.inr ("places" : Str) : Key), V.ref ap), (Sum.inr ("stands" : Str), .ref as), (Sum.inr ("near" : Str), .ref d), (Sum.inr ("gone" : Str), .ref gl)] = kvs := by injection e with e; injection e
    rw [← e', em, valV_put, if_neg nNG, valV_put, if_pos rfl] at v
    injection v with v
    injection v with v
    rw [← v]
    exact k1.free nin0 n2
theorem StgAt.keep {H H' : Hp} {s : Addr} {T : Tn} {D : Tab} (h : StgAt H s T D) (k : Keep [] H H') : StgAt H' s T D := by
  obtain ⟨kvs, ap, nd, gl, a1, a2, a3, a4, a5, a6, a7⟩ := h.ob
  obtain ⟨kv2, as, b1, b2, b3⟩ := h.st
  exact ⟨⟨kvs, ap, nd, gl, k _ _ nin0 a1, a2, a3, a4, a5.keep k nin0, a6.keep k, k _ _ nin0 a7⟩, kv2, as, k _ _ nin0 b1, b2, b3.keep k nin0⟩
/-! ### what is left uncovered -/
theorem lack_next {T : Tn} {D : Tab} {ps : List Str} {i : Nat} {y : Str} (h : T.places[i]? = some y) : ((outOf T (bareOf T D T.stands) (i + 1)).filter fun y => decide (y ∉ ps.flatMap (nearOf T D))) =
    ((outOf T (bareOf T D T.stands) i).filter fun y => decide (y ∉ ps.flatMap (nearOf T D))) ++ (if y ∉ bareOf T D T.stands ∧ y ∉ ps.flatMap (nearOf T D) then [y] else []) := by
  rw [outOf_succ h, List.filter_append]
  congr 1
  by_cases h1 : y ∉ bareOf T D T.stands
  · rw [if_pos h1]
    by_cases h2 : y ∉ ps.flatMap (nearOf T D)
    · rw [if_pos ⟨h1, h2⟩, List.filter_cons, if_pos (by simpa using h2)]
      rfl
    · rw [if_neg (fun z => h2 z.2), List.filter_cons, if_neg (by simpa using h2)]
      rfl
  · rw [if_neg h1, if_neg (fun z => h1 z.1)]
    rfl
def spLeft : Sp := fun vs H Q _ => ∃ (s pl : Addr) (T : Tn) (D : Tab) (ps : List Str), vs = [.ref s, .ref pl] ∧ StgAt H s T D ∧ T.places.length ≤ 10 ∧ H pl = some (.lst (ps.map V.str)) ∧ ps.length ≤ 20 ∧ (∀ z ∈ ps, z ∈ T.places) ∧ ∀ l H', H l = none → Keep [] H H' → H' l = some (.lst ((lackOf T D ps).map V.str)) → Q (.ref l) H'
theorem rd_left (K : PySem.W.Frag) : ∀ vs H Q E, spLeft vs H Q E → run (t__law_left K) (L2.start N__law_left vs) H Q := by
  rintro _ H Q _ ⟨s, pl, T, D, ps, rfl, sg, p10, hp, l20, mp, q⟩
  show run (t__law_left K) [some (.ref s), some (.ref pl), none, none, none] H Q
  obtain ⟨kvs, ap, nd, gl, a1, a2, a3, a4, a5, a6, a7⟩ := sg.ob
  have dg : ∀ {H' : Hp} {k : Str} {v : V}, Keep [] H H' → valV kvs (Sum.inr k) = some v → DGet H' s (.str k) (some v) := fun {H'} {k} {v} kk h => by
    have := DGet.k (k := (Sum.inr k : Key)) (kk _ _ nin0 a1)
    rw [h] at this
    exact this
  unfold t__law_left
  walk_at "sx"
  refine ⟨by walk_at "sz", fun f H1 nf k1 e1 => ?_⟩
  walk_at "sx"
  refine ⟨s, .ref ap, rfl, dg k1 a2, ?_⟩
  have lk : ∀ i, ((outOf T (bareOf T D T.stands) i).filter fun y => decide (y ∉ ps.flatMap (nearOf T D))).length ≤ 10 := fun i => Nat.le_trans (List.length_filter_le _ _) (Nat.le_trans (outOf_len T _ i) p10)
  have napf : ap ≠ f := fun z => by obtain ⟨o, h⟩ := a5.there; rw [z, nf] at h; cases h
  refine g_FEs (RR := fun _ (x : V) (y : Str) => x = V.str y) [f] (.inr (a5.keep k1 nin0)) (nin1 napf) (ei_map V.str (fun _ => rfl) T.places) (fun _ _ _ h _ => h) (fun j σ H' => ∃ y3, σ = [some (.ref s), some (.ref pl), some (.ref f), y3, none] ∧ H' f = some (.lst (((outOf T (bareOf T D T.stands) j).filter fun y => decide (y ∉ ps.flatMap (nearOf T D))).map V.str))) ⟨_, rfl, e1⟩ ?_ ?_
  · rintro j _ y σ H2 hy k2 rfl ⟨y3, rfl, ef⟩
    have k02 : Keep [] H H2 := k1.past k2 nf
    have nx := lack_next (D := D) (ps := ps) hy
    have lj := lk j
    walk_at "sx"
    unfold t__law_left_b1
    walk_at "sx"
    refine ⟨s, .ref gl, rfl, dg k02 a4, g_notinS (k02 _ _ nin0 a7) ⟨_, rfl, ?_⟩⟩
    by_cases h1 : y ∉ bareOf T D T.stands
    · rw [decide_eq_true h1, if_pos rfl]
      refine g_CE (RR := fun _ (x : V) (y : Str) => x = V.str y) (.inl (k02 _ _ nin0 hp)) (ei_map V.str (fun _ => rfl) ps) (fun _ _ _ _ h _ => h) (fun i H' acc => acc = ((ps.take i).map fun z => decide (y ∈ nearOf T D z)).map V.bl) (fun _ _ _ _ => rfl) ?_ ?_
      · rintro L3 i _ z H4 acc R' R0' nL3 hz k4 eL3 rfl rfl hR' _
        walk_at "sx"
        have k04 := k02.trans k4
        obtain ⟨kv, b1, b2⟩ := a6.keep k04
        obtain ⟨e, v, g⟩ := b2 z (mp z (List.mem_of_getElem? hz))
        have hi := (List.getElem?_eq_some_iff.mp hz).1
        refine ⟨s, .ref nd, rfl, dg k04 a3, nd, .ref e, rfl, ?_, ?_⟩
        · have := DGet.k (k := (Sum.inr z : Key)) b1
          rw [v] at this
          exact this
        · refine g_inN g (hR' _ _ (Keep.refl _ _) (by simp only [List.length_map, List.length_take]; exact len_lt (by omega)) fun H5 _ => ?_)
          rw [List.take_succ, hz, List.map_append, List.map_append]
          rfl
      · rintro L3 H4 acc nL3 k4 eL3 rfl
        rw [List.take_length] at eL3
        refine ⟨L3, _, rfl, lst_sq eL3, ⟨_, rfl, ?_⟩⟩
        rw [any_in]
        by_cases h2 : y ∈ ps.flatMap (nearOf T D)
        · rw [decide_eq_true h2, if_neg (by decide)]
          rw [if_neg (fun z => z.2 h2), List.append_nil] at nx
          refine ⟨k2.trans k4.all, _, rfl, ?_⟩
          rw [nx]
          exact k4 _ _ nin0 ef
        · rw [decide_eq_false h2, if_pos (by decide)]
          rw [if_pos ⟨h1, h2⟩] at nx
          have ef4 := k4 _ _ nin0 ef
          refine ⟨.inl ⟨rfl, _, .inl (.inl ef4)⟩, g_append ef4 (by rw [List.length_map]; exact len_lt (by omega)) fun H5 k5 e5 => ⟨k2.trans (k4.all.trans k5), _, rfl, ?_⟩⟩
          rw [nx, List.map_append]
          exact e5
    · rw [decide_eq_false h1, if_neg (by decide)]
      rw [if_neg (fun z => h1 z.1), List.append_nil] at nx
      refine ⟨k2, _, rfl, ?_⟩
      rw [nx]
      exact ef
  · rintro σ H2 k2 ⟨y3, rfl, ef⟩
    unfold t__law_left_r1
    walk_at "sx"
    exact q f H2 nf (k1.past k2 nf) ef


/-! ### choices of stands -/
structure StdAt (CN CS : Addr) (H : Hp) (m : Addr) (T : Tn) (D : Tab) : Prop where
  ob : ∃ dx fs i as, H m = some (.ins CS dx fs) ∧ fs.lookup ("near" : Str) = some (.ref i) ∧ fs.lookup ("stands" : Str) = some (.ref as) ∧ (∀ x : Str, x ≠ "near" → x ≠ "stands" → fs.lookup x = none) ∧ NearAt CN H i T D ∧ Tup H as (T.stands.map V.str)
theorem StdAt.keep {CN CS : Addr} {H H' : Hp} {m : Addr} {T : Tn} {D : Tab} (h : StdAt CN CS H m T D) (k : Keep [] H H') : StdAt CN CS H' m T D := by
  obtain ⟨dx, fs, i, as, a, b, c, d, e, f⟩ := h.ob
  exact ⟨dx, fs, i, as, k _ _ nin0 a, b, c, d, e.keep k, f.keep k nin0⟩
theorem made_keep {H : Hp} {i d C : Addr} (ni : H i = none) (nd : H d = none) (ne : d ≠ i) : Keep [] H (upd (upd H d (.own i)) i (.ins C d [])) := (Keep.new nd).trans (Keep.new (by rw [upd_ne ne.symm]; exact ni))
theorem made_near {C t c : Addr} {T : Tn} {D : Tab} {H : Hp} {Q : VK} (hT : TnAt H t T) (p10 : T.places.length ≤ 10) (hc : ChAt H c T.places.length D) (ls : T.stands.length ≤ 30) (ms : ∀ z ∈ T.stands, z ∈ T.places)
    (q : ∀ i H', H i = none → Keep [] H H' → NearAt C H' i T D → Q (.ref i) H') : MadeAt (spNearNew C) E0 C [.ref t, .ref c] H Q := by
  intro i d ni nd ne
  have k := made_keep (C := C) ni nd ne
  exact ⟨i, t, c, d, T, D, rfl, upd_same, hT.keep k noTup0, p10, hc.keep k, ls, ms, fun H' k' na => ⟨rfl, q i H' ni (k.past k' ni) na⟩⟩
theorem nNS : ¬ ("near" : Str) = "stands" := by decide +kernel
def spStdNew (CN CS : Addr) : Sp := fun vs H Q _ => ∃ (m t c dx : Addr) (T : Tn) (D : Tab), vs = [.ref m, .ref t, .ref c] ∧ H m = some (.ins CS dx []) ∧ TnAt H t T ∧ T.places.length ≤ 10 ∧ ChAt H c T.places.length D ∧ T.stands.length ≤ 30 ∧ (∀ z ∈ T.stands, z ∈ T.places) ∧
  ∀ H', Keep [m] H H' → StdAt CN CS H' m T D → Q .non H'
theorem rd_stdNew (K : PySem.W.Frag) {CN CS : Addr} (cl : Cls K CS) (n1 : NoAttr K CS "near") (n2 : NoAttr K CS "stands") : ∀ vs H Q E, spStdNew CN CS vs H Q E → run (t_StandChoices____init__ K (spNearNew CN) CN) (L2.start N_StandChoices____init__ vs) H Q := by
  rintro _ H Q _ ⟨m, t, c, dx, T, D, rfl, hm, hT, p10, hc, ls, ms, q⟩
  show run (t_StandChoices____init__ K (spNearNew CN) CN) [some (.ref m), some (.ref t), some (.ref c)] H Q
  unfold t_StandChoices____init__
  walk_at "sx"
  unfold sFld tNewC
  walk_at "sx"
  refine made_near hT p10 hc ls ms fun i H1 ni k1 na => ?_
  have hm1 := k1 _ _ nin0 hm
  refine ⟨m, CS, dx, [], rfl, hm1, cl, n1, by decide, ?_⟩
  have kI : Keep [m] H1 (upd H1 m (.ins CS dx (putF "near" (.ref i) []))) := Keep.set
  have eI : upd H1 m (.ins CS dx (putF "near" (.ref i) [])) m = some (.ins CS dx (putF "near" (.ref i) [])) := upd_same
  generalize hH2 : upd H1 m (.ins CS dx (putF "near" (.ref i) [])) = H2 at kI eI ⊢
  clear hH2
  have nt := noTupI hm1
  have hT2 := (hT.keep k1 noTup0).keep kI nt
  obtain ⟨ap, ar, as, rv, g1, g2, g3, g4, g5⟩ := hT2
  refine g_ixT g1 (at_lit 2 rfl rfl) ?_
  refine ⟨m, CS, dx, _, rfl, eI, cl, n2, Nat.lt_of_le_of_lt (show (putF "near" (V.ref i) []).length ≤ 1 from Nat.le_refl _) (by decide), ?_⟩
  have kJ : Keep [m] H2 (upd H2 m (.ins CS dx (putF "stands" (.ref as) (putF "near" (.ref i) [])))) := Keep.set
  have keep2 : ∀ {a o}, H1 a = some o → a ≠ m → upd H2 m (.ins CS dx (putF "stands" (.ref as) (putF "near" (.ref i) []))) a = some o := fun h n => kJ _ _ (nin1 n) (kI _ _ (nin1 n) h)
  refine q _ (k1.all.trans (kI.trans kJ)) ⟨dx, _, i, as, upd_same, by rw [lookup_putF, if_neg nNS, lookup_putF, if_pos rfl], by rw [lookup_putF, if_pos rfl], fun x h1 h2 => by rw [lookup_putF, if_neg h2, lookup_putF, if_neg h1]; rfl, ?_, g5.keep kJ (noTupI eI _ _ g5)⟩
  obtain ⟨dx', fs, g, tb, a1, a2, a3, a4, a5, kvs, b1, b2⟩ := na.ob
  have nim : i ≠ m := fun z => by rw [z, hm] at ni; cases ni
  refine ⟨dx', fs, g, tb, keep2 a1 nim, a2, a3, a4, keep2 a5 (fun z => by rw [z, hm1] at a5; cases a5), kvs, keep2 b1 (fun z => by rw [z, hm1] at b1; cases b1), fun z hz => ?_⟩
  obtain ⟨e, v, kv, c1, c2⟩ := b2 z hz
  exact ⟨e, v, kv, keep2 c1 (fun z => by rw [z, hm1] at c1; cases c1), c2⟩
/-- what is chosen: a list of tuples of a stand -/
def OpAt (H : Hp) (x : V) (s : Str) : Prop := ∃ p, x = .ref p ∧ Tup H p [.str s]
theorem OpAt.keep {S : List Addr} {H H' : Hp} {x : V} {s : Str} (h : OpAt H x s) (k : Keep S H H') (n : NoTup S H) : OpAt H' x s := let ⟨p, e, t⟩ := h; ⟨p, e, t.keep k (n _ _ t)⟩
theorem ops_keep {S : List Addr} {H H' : Hp} {vs : List V} {ss : List Str} (h : EI (OpAt H) vs ss) (k : Keep S H H') (n : NoTup S H) : EI (OpAt H') vs ss := h.mono fun _ _ q => q.keep k n
def spStdLack (CN CS : Addr) : Sp := fun vs H Q _ => ∃ (m cl : Addr) (T : Tn) (D : Tab) (cv : List V) (ps : List Str), vs = [.ref m, .ref cl] ∧ StdAt CN CS H m T D ∧ T.places.length ≤ 10 ∧ H cl = some (.lst cv) ∧ EI (OpAt H) cv ps ∧ (∀ z ∈ ps, z ∈ T.places) ∧ ps.length ≤ 20 ∧
  ∀ l H', H l = none → Keep [] H H' → H' l = some (.lst ((lackOf T D ps).map V.str)) → Q (.ref l) H'
theorem rd_stdLack (K : PySem.W.Frag) {CN CS : Addr} (cls : Cls K CS) (n1 : NoAttr K CS "near") : ∀ vs H Q E, spStdLack CN CS vs H Q E → run (t_StandChoices__lacking K (spNearLack CN) CN) (L2.start N_StandChoices__lacking vs) H Q := by
  rintro _ H Q _ ⟨m, cl, T, D, cv, ps, rfl, ob, p10, hc, ec, mp, lp, q⟩
  show run (t_StandChoices__lacking K (spNearLack CN) CN) [some (.ref m), some (.ref cl), none] H Q
  unfold t_StandChoices__lacking
  walk_at "sx"
  unfold tMth tFld
  walk_at "sx"
  obtain ⟨dx, fs, i, as, a1, a2, a3, a4, a5, a6⟩ := ob.ob
  obtain ⟨dx', fs', g, tb, b1, b2, b3, b4, b5⟩ := a5.ob
  refine ⟨m, CS, dx, fs, _, rfl, a1, cls, n1, a2, i, dx', fs', rfl, b1, b4 _ nLG nLT, ?_⟩
  refine g_CE (RR := OpAt) (.inl hc) ec (fun H H' x r h k => h.keep k noTup0) (fun j H' acc => acc = (ps.take j).map V.str) (fun _ _ _ _ => rfl) ?_ ?_
  · rintro L j x s H1 acc R R0 nL hs k eL ⟨p, rfl, tp⟩ rfl hR _
    walk_at "sx"
    refine g_ixT tp (at_lit 0 rfl rfl) (hR _ _ (Keep.refl _ _) (by rw [List.length_map, List.length_take]; exact len_lt (by omega)) fun H5 _ => ?_)
    rw [List.take_succ, hs, List.map_append]
    rfl
  · rintro L H1 acc nL k eL rfl
    rw [List.take_length] at eL
    exact ⟨i, L, T, D, ps, rfl, a5.keep k, p10, eL, mp, lp, fun l2 H2 n2 k2 e2 => q l2 H2 (k.free nin0 n2) (k.trans k2) e2⟩
def spReaches (CN : Addr) : Sp := fun vs H Q _ => ∃ (i : Addr) (s z : Str) (T : Tn) (D : Tab), vs = [.ref i, .str s, .str z] ∧ NearAt CN H i T D ∧ s ∈ T.places ∧ Q (.bl (decide (z ∈ nearOf T D s))) H
theorem rd_reaches (K : PySem.W.Frag) {CN : Addr} (cl : Cls K CN) (n2 : NoAttr K CN "table") : ∀ vs H Q E, spReaches CN vs H Q E → run (t_Near__reaches K) (L2.start N_Near__reaches vs) H Q := by
  rintro _ H Q _ ⟨i, s, z, T, D, rfl, na, hs, q⟩
  show run (t_Near__reaches K) [some (.ref i), some (.str s), some (.str z)] H Q
  unfold t_Near__reaches
  walk_at "sx"
  unfold tDIn tFld
  walk_at "sx"
  obtain ⟨dx, fs, g, tb, a1, a2, a3, a4, a5, tk, b1, b2⟩ := na.ob
  obtain ⟨e, v, st⟩ := b2 s hs
  refine ⟨i, CN, dx, fs, _, rfl, a1, cl, n2, a3, tb, .ref e, rfl, ?_, ?_⟩
  · have := DGet.k (k := (Sum.inr s : Key)) b1
    rw [v] at this
    exact this
  · obtain ⟨kve, c1, c2, c3, c4⟩ := st
    refine ⟨e, _, rfl, DGet.k (k := (Sum.inr z : Key)) c1, ?_⟩
    rw [c3 z]
    exact q
def optsOf (T : Tn) (D : Tab) (z : Str) : List Str := T.stands.filter fun s => decide (z ∈ nearOf T D s)
def spOptions (CN CS : Addr) : Sp := fun vs H Q _ => ∃ (m : Addr) (x : V) (z : Str) (T : Tn) (D : Tab), vs = [.ref m, x, .str z] ∧ StdAt CN CS H m T D ∧ T.stands.length ≤ 5 ∧ (∀ z ∈ T.stands, z ∈ T.places) ∧
  ∀ l H' ov, H l = none → Keep [] H H' → H' l = some (.lst ov) → EI (OpAt H') ov (optsOf T D z) → Q (.ref l) H'
theorem rd_options (K : PySem.W.Frag) {CN CS : Addr} (cls : Cls K CS) (n1 : NoAttr K CS "near") (n2 : NoAttr K CS "stands") : ∀ vs H Q E, spOptions CN CS vs H Q E → run (t_StandChoices__options K (spReaches CN) CN) (L2.start N_StandChoices__options vs) H Q := by
  rintro _ H Q _ ⟨m, x, z, T, D, rfl, ob, s5, sp, q⟩
  show run (t_StandChoices__options K (spReaches CN) CN) [some (.ref m), some x, some (.str z), none] H Q
  unfold t_StandChoices__options
  walk_at "sx"
  unfold tFld
  walk_at "sx"
  obtain ⟨dx, fs, i, as, a1, a2, a3, a4, a5, a6⟩ := ob.ob
  obtain ⟨dx', fs', g, tb, b1, b2, b3, b4, b5⟩ := a5.ob
  refine ⟨m, CS, dx, fs, _, rfl, a1, cls, n2, a3, ?_⟩
  refine g_CE (RR := fun _ (x : V) (y : Str) => x = V.str y) (.inr a6) (ei_map V.str (fun _ => rfl) T.stands) (fun _ _ _ _ h _ => h) (fun j H' acc => EI (OpAt H') acc ((T.stands.take j).filter fun s => decide (z ∈ nearOf T D s))) (fun _ _ _ _ => .nil) ?_ ?_
  · rintro L j _ s H1 acc R R0 nL hs k eL rfl hacc hR hR0
    have nx := flt_next (p := fun s => decide (z ∈ nearOf T D s)) hs
    have fl := flt_len (p := fun s => decide (z ∈ nearOf T D s)) (l := T.stands) (i := j)
    walk_at "sx"
    unfold tMth
    walk_at "sx"
    refine ⟨m, CS, dx, fs, _, rfl, k _ _ nin0 a1, cls, n1, a2, i, dx', fs', rfl, k _ _ nin0 b1, b4 _ (by decide +kernel) (by decide +kernel), i, s, z, T, D, rfl, a5.keep k, sp s (List.mem_of_getElem? hs), ⟨_, rfl, ?_⟩⟩
    by_cases h : z ∈ nearOf T D s
    · rw [decide_eq_true h, if_pos rfl]
      rw [if_pos (by simpa using h)] at nx
      refine ⟨by walk_at "sz", fun p H2 n2' k2 t2 => hR _ _ k2 (by rw [hacc.length]; exact len_lt (by omega)) fun H3 k3 => ?_⟩
      rw [nx]
      have eL2 := k2 _ _ nin0 eL
      exact ei_snoc (R := OpAt H3) ⟨p, rfl, t2.keep k3 (noTup1 eL2 _ _ t2)⟩ (ops_keep (ops_keep hacc k2 noTup0) k3 (noTup1 eL2))
    · rw [decide_eq_false h, if_neg (by decide)]
      rw [if_neg (by simpa using h), List.append_nil] at nx
      refine hR0 _ (Keep.refl _ _) ?_
      rw [nx]
      exact hacc
  · rintro L H1 acc nL k eL hacc
    rw [List.take_length] at hacc
    exact q L H1 acc nL k eL hacc
/-- the least of places, by its options -/
def fewer (T : Tn) (D : Tab) (o : Option Str) (z : Str) : Option Str := match o with
  | none => some z
  | some y => if (optsOf T D z).length < (optsOf T D y).length then some z else some y
def tightN (T : Tn) (D : Tab) (zs : List Str) : Option Str := zs.foldl (fewer T D) none
theorem fewer_some (T : Tn) (D : Tab) : ∀ (zs : List Str) (o : Option Str), (o.isSome = true ∨ zs ≠ []) → ∃ y, zs.foldl (fewer T D) o = some y ∧ (o = some y ∨ y ∈ zs)
  | [], o, h => by
    rcases h with h | h
    · obtain ⟨y, e⟩ := Option.isSome_iff_exists.mp h
      exact ⟨y, e, .inl e⟩
    · exact absurd rfl h
  | z :: zs, o, _ => by
    have hs : (fewer T D o z).isSome = true := by
      unfold fewer
      cases o with
      | none => rfl
      | some y => dsimp only; split <;> rfl
    obtain ⟨y, e, h⟩ := fewer_some T D zs (fewer T D o z) (.inl hs)
    refine ⟨y, e, ?_⟩
    rcases h with h | h
    · unfold fewer at h
      cases o with
      | none => exact .inr (by rw [← Option.some.inj h]; exact List.mem_cons_self)
      | some x =>
        dsimp only at h
        split at h
        · exact .inr (by rw [← Option.some.inj h]; exact List.mem_cons_self)
        · exact .inl h
    · exact .inr (List.mem_cons_of_mem _ h)


/-! ### in order; the tightest -/
def ordOf (T : Tn) (ps : List Str) : List Int := (ps.map fun s => ((pIx T.stands s : Nat) : Int)).mergeSort (PySem.W.dataLe false PyData.int)
theorem g_sortZ {K : PySem.W.Frag} {H : Hp} {a : Addr} {is : List Int} {Q : VK} (h : H a = some (.lst (is.map V.int))) (q : ∀ p H', H p = none → Keep [] H H' → H' p = some (.lst ((is.mergeSort (PySem.W.dataLe false PyData.int)).map V.int)) → Q (.ref p) H') : uSorted K [.ref a] H Q := by
  refine ⟨Int, fun x y => x = V.int y, PyData.int, a, _, is, rfl, lst_sq h, ei_map V.int (fun _ => rfl) is, fun x r e => by rw [e]; exact .int r, PySem.W.AllAlike.of fun _ _ => rfl, Or.inr fun d hd => ?_, fun r _ => by simp [PyData.depth], fun us _ eu p H' n k e' => ?_⟩
  · obtain ⟨r, _, rfl⟩ := List.mem_map.mp hd
    exact ⟨(fun z => nomatch z), fun xs z => nomatch z⟩
  · have key : ∀ {us : List V} {zs : List Int}, EI (fun x y => x = V.int y) us zs → us = zs.map V.int := by
      intro us zs h
      induction h with
      | nil => rfl
      | cons h _ ih => rw [List.map_cons, h, ih]
    rw [key eu] at e'
    exact q p H' n k e'
def spOrdered (CN CS : Addr) : Sp := fun vs H Q _ => ∃ (m cl : Addr) (T : Tn) (D : Tab) (cv : List V) (ps : List Str), vs = [.ref m, .ref cl] ∧ StdAt CN CS H m T D ∧ H cl = some (.lst cv) ∧ EI (OpAt H) cv ps ∧ (∀ z ∈ ps, z ∈ T.stands) ∧ ps.length ≤ 20 ∧
  ∀ l H', H l = none → Keep [] H H' → H' l = some (.lst ((ordOf T ps).map V.int)) → Q (.ref l) H'
theorem rd_ordered (K : PySem.W.Frag) {CN CS : Addr} (cls : Cls K CS) (n2 : NoAttr K CS "stands") : ∀ vs H Q E, spOrdered CN CS vs H Q E → run (t_StandChoices__ordered K) (L2.start N_StandChoices__ordered vs) H Q := by
  rintro _ H Q _ ⟨m, cl, T, D, cv, ps, rfl, ob, hc, ec, mp, lp, q⟩
  show run (t_StandChoices__ordered K) [some (.ref m), some (.ref cl), none] H Q
  unfold t_StandChoices__ordered
  walk_at "sx"
  obtain ⟨dx, fs, i, as, a1, a2, a3, a4, a5, a6⟩ := ob.ob
  refine g_CE (RR := OpAt) (.inl hc) ec (fun H H' x r h k => h.keep k noTup0) (fun j H' acc => acc = ((ps.take j).map fun s => ((pIx T.stands s : Nat) : Int)).map V.int) (fun _ _ _ _ => rfl) ?_ ?_
  · rintro L j x s H1 acc R R0 nL hs k eL ⟨p, rfl, tp⟩ rfl hR _
    have hin := mp s (List.mem_of_getElem? hs)
    walk_at "sx"
    unfold tFld
    walk_at "sx"
    refine ⟨m, CS, dx, fs, _, rfl, k _ _ nin0 a1, cls, n2, a3, as, T.stands, rfl, a6.keep k nin0, ?_⟩
    refine g_ixT tp (at_lit 0 rfl rfl) ⟨s, pIx T.stands s, rfl, a6.keep k nin0, pIx_at hin, fun m => pIx_first, ?_⟩
    refine hR _ _ (Keep.refl _ _) (by simp only [List.length_map, List.length_take]; exact len_lt (by omega)) fun H5 _ => ?_
    rw [List.take_succ, hs, List.map_append, List.map_append]
    rfl
  · rintro L H1 acc nL k eL rfl
    rw [List.take_length] at eL
    exact g_sortZ eL fun l H2 n2' k2 e2 => q l H2 (k.free nin0 n2') (k.trans k2) e2


/-! ### sought -/
def FdN (H0 H : Hp) (x : V) (o : Option (List Int)) : Prop := match o with
  | none => x = .non
  | some is => ∃ l, x = .ref l ∧ H0 l = none ∧ H l = some (.lst (is.map V.int))
def DpN (K : PySem.W.Frag) (H0 H : Hp) (v : V) (d : PyData) : Prop := ∀ S H2, (∀ a ∈ S, ∃ o, H0 a = some o) → Keep S H H2 → Dp K H2 v d
theorem tup_new {K : PySem.W.Frag} {H0 H : Hp} {p : Addr} {xs : List V} {ds : List PyData} (n : H0 p = none) (t : Tup H p xs) (h : ∀ S H2, (∀ a ∈ S, ∃ o, H0 a = some o) → Keep S H H2 → DpAll K H2 xs ds) : DpN K H0 H (.ref p) (.tuple ds) := fun S H2 hS k =>
  .tup (t.keep k fun hp => by obtain ⟨o, e⟩ := hS p hp; rw [n] at e; cases e).sq (h S H2 hS k)
def betterN (o : Option (List Int)) (f : Option (List Int)) : Option (List Int) := match f, o with
  | none, o => o
  | some is, none => some is
  | some is, some js => if PySem.W.dataLt (.list (is.map .int)) (.list (js.map .int)) then some is else some js
def soughtN (T : Tn) (D : Tab) (many : Nat) : Nat → List Str → Option (List Int) × PyData
  | 0, _ => (none, .none)
  | m + 1, ps => match lackOf T D ps with
    | [] => (some (ordOf T ps), .tuple [.str "full"])
    | z :: zs => if ps.length = many then (none, .tuple [.str "bare", .str z]) else match tightN T D (z :: zs) with
      | none => (none, .none)
      | some y => match optsOf T D y with
        | [] => (none, .tuple [.str "bare", .str y])
        | o :: os => (((o :: os).map fun s => (soughtN T D many m (ps ++ [s])).1).foldl betterN none, .tuple [.str "by", .str y, .tuple ((o :: os).map fun s => .tuple [.str s, (soughtN T D many m (ps ++ [s])).2])])
section
variable {T : Tn} {D : Tab} {many m : Nat} {ps zs os : List Str} {z y o : Str}
theorem sought_full (h : lackOf T D ps = []) : soughtN T D many (m + 1) ps = (some (ordOf T ps), .tuple [.str "full"]) := by
  unfold soughtN
  rw [h]
theorem sought_end (h : lackOf T D ps = z :: zs) (hm : ps.length = many) : soughtN T D many (m + 1) ps = (none, .tuple [.str "bare", .str z]) := by
  unfold soughtN
  rw [h]
  exact if_pos hm
theorem sought_none (h : lackOf T D ps = z :: zs) (hm : ¬ ps.length = many) (ht : tightN T D (z :: zs) = some y) (ho : optsOf T D y = []) : soughtN T D many (m + 1) ps = (none, .tuple [.str "bare", .str y]) := by
  unfold soughtN
  rw [h]
  dsimp only
  rw [if_neg hm, ht]
  dsimp only
  rw [ho]
theorem sought_by (h : lackOf T D ps = z :: zs) (hm : ¬ ps.length = many) (ht : tightN T D (z :: zs) = some y) (ho : optsOf T D y = o :: os) : soughtN T D many (m + 1) ps =
    (((o :: os).map fun s => (soughtN T D many m (ps ++ [s])).1).foldl betterN none, .tuple [.str "by", .str y, .tuple ((o :: os).map fun s => .tuple [.str s, (soughtN T D many m (ps ++ [s])).2])]) := by
  conv => lhs; unfold soughtN
  rw [h]
  dsimp only
  rw [if_neg hm, ht]
  dsimp only
  rw [ho]
end
structure TkOk (T : Tn) : Prop where
  p10 : T.places.length ≤ 10
  s5 : T.stands.length ≤ 5
  sp : ∀ z ∈ T.stands, z ∈ T.places
theorem fd_keep {H0 H H' : Hp} {x : V} {o : Option (List Int)} {S : List Addr} (h : FdN H0 H x o) (k : Keep S H H') (n : ∀ a ∈ S, ∃ o, H0 a = some o) : FdN H0 H' x o := by
  cases o with
  | none => exact h
  | some is =>
    obtain ⟨l, e, n0, f⟩ := h
    exact ⟨l, e, n0, k _ _ (fun hl => by obtain ⟨o, e⟩ := n l hl; rw [n0] at e; cases e) f⟩
theorem dpn_keep {K : PySem.W.Frag} {H0 H1 H2 : Hp} {v : V} {d : PyData} {S : List Addr} (h : DpN K H0 H1 v d) (k : Keep S H1 H2) (n : ∀ a ∈ S, ∃ o, H0 a = some o) : DpN K H0 H2 v d := fun S' H3 n' k' =>
  h (S ++ S') H3 (fun a ha => (List.mem_append.mp ha).elim (n a) (n' a)) ((k.wide fun x hx => List.mem_append_left _ hx).trans (k'.wide fun x hx => List.mem_append_right _ hx))
theorem dpn_weak {K : PySem.W.Frag} {H0 H0' H : Hp} {v : V} {d : PyData} (h : DpN K H0 H v d) (n : ∀ a o, H0' a = some o → ∃ o', H0 a = some o') : DpN K H0' H v d := fun S H2 n' k => h S H2 (fun a ha => (n' a ha).elim fun o e => n a o e) k
theorem fd_weak {H0 H0' H : Hp} {x : V} {o : Option (List Int)} (h : FdN H0 H x o) (n : ∀ a o, H0' a = some o → ∃ o', H0 a = some o') : FdN H0' H x o := by
  cases o with
  | none => exact h
  | some is =>
    obtain ⟨l, e, n0, f⟩ := h
    refine ⟨l, e, ?_, f⟩
    cases h' : H0' l with
    | none => rfl
    | some o =>
      obtain ⟨o', e'⟩ := n l o h'
      rw [n0] at e'; cases e'
theorem alike_ints : ∀ (xs ys : List Int), PySem.W.alikeAll (xs.map PyData.int) (ys.map PyData.int) = true
  | [], ys => by simp [PySem.W.alikeAll]
  | x :: xs, [] => by simp [PySem.W.alikeAll]
  | x :: xs, y :: ys => by simp [PySem.W.alikeAll, PySem.W.alike, alike_ints xs ys]
theorem dp_ints2 {K : PySem.W.Frag} {H : Hp} : ∀ is : List Int, DpAll K H (is.map V.int) (is.map PyData.int)
  | [] => .nil
  | i :: is => .cons (.int i) (dp_ints2 is)
theorem depth_ints2 : ∀ is : List Int, PyData.depthAll (is.map PyData.int) = 0
  | [] => by simp [PyData.depthAll]
  | i :: is => by simp [PyData.depthAll, PyData.depth, depth_ints2 is]


/-! ### what is sought is found -/
section
variable {T : Tn} {D : Tab} {many : Nat}
theorem lack_iff {ps : List Str} {y : Str} : y ∈ lackOf T D ps ↔ y ∈ goalsOf T D ∧ y ∉ ps.flatMap (nearOf T D) := by
  unfold lackOf
  rw [List.mem_filter]
  simp
theorem lack_nil {ps qs : List Str} (h : ∀ z ∈ ps, z ∈ qs) (e : lackOf T D ps = []) : lackOf T D qs = [] := by
  cases h' : lackOf T D qs with
  | nil => rfl
  | cons y ys =>
    have hy : y ∈ lackOf T D qs := by rw [h']; exact List.mem_cons_self
    obtain ⟨h1, h2⟩ := lack_iff.mp hy
    have : y ∈ lackOf T D ps := lack_iff.mpr ⟨h1, fun hm => h2 (by
      obtain ⟨s, hs, hn⟩ := List.mem_flatMap.mp hm
      exact List.mem_flatMap.mpr ⟨s, h s hs, hn⟩)⟩
    rw [e] at this
    cases this
abbrev ltI (a b : List Int) : Bool := PySem.W.dataLt (.list (a.map .int)) (.list (b.map .int))
abbrev leI : List Int → List Int → Bool := PySem.W.dataLe false fun a => .list (a.map .int)
theorem leI_total : PySem.W.TotalLe leI := PySem.W.sortLe_total _ false _
theorem leI_iff {a b : List Int} : leI a b = true ↔ ltI b a = false := by
  show (!ltI b a) = true ↔ _
  simp
theorem leI_refl (a : List Int) : leI a a = true := by
  have := leI_total.total a a
  simpa using this
theorem better_mem : ∀ (l : List (Option (List Int))) (o : Option (List Int)) (is : List Int), l.foldl betterN o = some is → o = some is ∨ some is ∈ l
  | [], o, is, h => .inl h
  | f :: l, o, is, h => by
    rcases better_mem l (betterN o f) is h with e | e
    · cases f with
      | none => exact .inl e
      | some js =>
        cases o with
        | none => exact .inr (by rw [← e]; exact List.mem_cons_self)
        | some ks =>
          have e' : (if ltI js ks then some js else some ks) = some is := e
          split at e'
          · exact .inr (by rw [← e']; exact List.mem_cons_self)
          · exact .inl e'
    · exact .inr (List.mem_cons_of_mem _ e)
theorem better_le : ∀ (l : List (Option (List Int))) (o : Option (List Int)) (js : List Int), (o = some js ∨ some js ∈ l) → ∃ is, l.foldl betterN o = some is ∧ leI is js = true
  | [], o, js, h => by
    rcases h with h | h
    · exact ⟨js, h, leI_refl js⟩
    · cases h
  | f :: l, o, js, h => by
    rw [List.foldl_cons]
    have step : some js ∈ l ∨ ∃ ks, betterN o f = some ks ∧ leI ks js = true := by
      rcases h with h | h
      · right
        subst h
        cases f with
        | none => exact ⟨js, rfl, leI_refl js⟩
        | some ks =>
          show ∃ k, (if ltI ks js then some ks else some js) = some k ∧ _
          by_cases e : ltI ks js = true
          · rw [if_pos e]
            refine ⟨ks, rfl, ?_⟩
            rcases leI_total.total ks js with h | h
            · exact h
            · rw [leI_iff] at h; rw [e] at h; cases h
          · rw [if_neg e]; exact ⟨js, rfl, leI_refl js⟩
      · rcases List.mem_cons.mp h with h | h
        · right
          subst h
          cases o with
          | none => exact ⟨js, rfl, leI_refl js⟩
          | some ks =>
            show ∃ k, (if ltI js ks then some js else some ks) = some k ∧ _
            by_cases e : ltI js ks = true
            · rw [if_pos e]; exact ⟨js, rfl, leI_refl js⟩
            · rw [if_neg e]; exact ⟨ks, rfl, leI_iff.mpr (by simpa using e)⟩
        · exact .inl h
    rcases step with h | ⟨ks, e, h⟩
    · exact better_le l _ js (.inr h)
    · obtain ⟨is, e1, e2⟩ := better_le l (betterN o f) ks (.inl e)
      exact ⟨is, e1, leI_total.trans is ks js e2 h⟩
theorem tight_in {zs : List Str} {y : Str} (h : tightN T D zs = some y) : y ∈ zs := by
  cases zs with
  | nil => cases h
  | cons z zs =>
    obtain ⟨y', e, h'⟩ := fewer_some T D (z :: zs) none (.inr (fun c => nomatch c))
    have : some y' = some y := e.symm.trans h
    cases this
    rcases h' with h' | h'
    · cases h'
    · exact h'
theorem opt_new {ps : List Str} {y s : Str} (hy : y ∈ lackOf T D ps) (hs : s ∈ optsOf T D y) : s ∈ T.stands ∧ s ∉ ps := by
  obtain ⟨h1, h2⟩ := List.mem_filter.mp hs
  exact ⟨h1, fun hp => (lack_iff.mp hy).2 (List.mem_flatMap.mpr ⟨s, hp, of_decide_eq_true h2⟩)⟩
theorem sought_sound : ∀ (m : Nat) (ps : List Str) (is : List Int), ps.Nodup → (∀ z ∈ ps, z ∈ T.stands) → ps.length ≤ many → (soughtN T D many m ps).1 = some is →
    ∃ qs : List Str, qs.Nodup ∧ (∀ z ∈ qs, z ∈ T.stands) ∧ (∀ z ∈ ps, z ∈ qs) ∧ lackOf T D qs = [] ∧ qs.length ≤ many ∧ is = ordOf T qs
  | 0, _, _, _, _, _, h => by cases h
  | m + 1, ps, is, nd, hp, hl, h => by
    cases hlk : lackOf T D ps with
    | nil =>
      rw [sought_full hlk] at h
      exact ⟨ps, nd, hp, fun _ h => h, hlk, hl, (Option.some.inj h).symm⟩
    | cons z zs =>
      by_cases hm : ps.length = many
      · rw [sought_end hlk hm] at h; cases h
      · obtain ⟨y, ht, _⟩ := fewer_some T D (z :: zs) none (.inr (fun c => nomatch c))
        have ht : tightN T D (z :: zs) = some y := ht
        have hy : y ∈ lackOf T D ps := by rw [hlk]; exact tight_in ht
        cases hos : optsOf T D y with
        | nil => rw [sought_none hlk hm ht hos] at h; cases h
        | cons o os =>
          rw [sought_by hlk hm ht hos, ← hos] at h
          rcases better_mem _ _ _ h with e | e
          · cases e
          · obtain ⟨s, hs, e⟩ := List.mem_map.mp e
            obtain ⟨h1, h2⟩ := opt_new hy hs
            have nd' : (ps ++ [s]).Nodup := by
              rw [List.nodup_append]
              exact ⟨nd, by simp, fun a ha b hb e => h2 (by rw [List.mem_singleton.mp hb] at e; exact e ▸ ha)⟩
            obtain ⟨qs, q1, q2, q3, q4⟩ := sought_sound m (ps ++ [s]) is nd' (fun z hz => (List.mem_append.mp hz).elim (hp z) fun h => by rw [List.mem_singleton.mp h]; exact h1) (by simp; omega) e
            exact ⟨qs, q1, q2, fun z hz => q3 z (List.mem_append_left _ hz), q4⟩
end


section
variable {T : Tn} {D : Tab} {many : Nat}
theorem len_le_of {ps S : List Str} (nd : ps.Nodup) (h : ∀ z ∈ ps, z ∈ S) : ps.length ≤ S.length := by
  induction ps generalizing S with
  | nil => exact Nat.zero_le _
  | cons a ps ih =>
    obtain ⟨h1, h2⟩ := List.nodup_cons.mp nd
    have ha := h a List.mem_cons_self
    have := ih (S := S.erase a) h2 fun z hz => (List.mem_erase_of_ne (fun (e : z = a) => h1 (by rw [← e]; exact hz))).mpr (h z (List.mem_cons_of_mem _ hz))
    rw [List.length_erase_of_mem ha] at this
    have := List.length_pos_of_mem ha
    simp only [List.length_cons]
    omega
theorem all_in {ps S : List Str} (nd : ps.Nodup) (ns : S.Nodup) (h : ∀ z ∈ ps, z ∈ S) (l : S.length ≤ ps.length) : ∀ z ∈ S, z ∈ ps := fun z hz => by
  refine Classical.byContradiction fun hn => ?_
  have := len_le_of (ps := z :: ps) (S := S) (List.nodup_cons.mpr ⟨hn, nd⟩) fun x hx => (List.mem_cons.mp hx).elim (fun e => by rw [e]; exact hz) (h x)
  simp only [List.length_cons] at this
  omega
theorem sought_comp : ∀ (m : Nat) (ps S : List Str), ps.Nodup → S.Nodup → (∀ z ∈ ps, z ∈ S) → (∀ z ∈ S, z ∈ T.stands) → lackOf T D S = [] → S.length ≤ many → many < ps.length + m →
    ∃ (is : List Int) (S' : List Str), (soughtN T D many m ps).1 = some is ∧ S'.Nodup ∧ (∀ z ∈ S', z ∈ S) ∧ (∀ z ∈ ps, z ∈ S') ∧ lackOf T D S' = [] ∧ leI is (ordOf T S') = true
  | 0, ps, S, nd, ns, hs, _, _, hl, hm => by
    have := len_le_of nd hs
    omega
  | m + 1, ps, S, nd, ns, hs, hst, hc, hl, hm => by
    cases hlk : lackOf T D ps with
    | nil =>
      rw [sought_full hlk]
      exact ⟨_, ps, rfl, nd, hs, fun _ h => h, hlk, leI_refl _⟩
    | cons z zs =>
      have hle := len_le_of nd hs
      have notall : ¬ ps.length = many := fun e => by
        have := lack_nil (T := T) (D := D) (all_in nd ns hs (by omega)) hc
        rw [hlk] at this
        cases this
      obtain ⟨y, ht, _⟩ := fewer_some T D (z :: zs) none (.inr (fun c => nomatch c))
      have ht : tightN T D (z :: zs) = some y := ht
      have hy : y ∈ lackOf T D ps := by rw [hlk]; exact tight_in ht
      have hys : y ∈ S.flatMap (nearOf T D) := Classical.byContradiction fun hn => by
        have : y ∈ lackOf T D S := lack_iff.mpr ⟨(lack_iff.mp hy).1, hn⟩
        rw [hc] at this
        cases this
      obtain ⟨s, hsS, hns⟩ := List.mem_flatMap.mp hys
      have hso : s ∈ optsOf T D y := List.mem_filter.mpr ⟨hst s hsS, decide_eq_true hns⟩
      obtain ⟨_, h2⟩ := opt_new hy hso
      cases hos : optsOf T D y with
      | nil => rw [hos] at hso; cases hso
      | cons o os =>
        have nd' : (ps ++ [s]).Nodup := by
          rw [List.nodup_append]
          exact ⟨nd, by simp, fun a ha b hb e => h2 (by rw [List.mem_singleton.mp hb] at e; exact e ▸ ha)⟩
        obtain ⟨js, S', e1, e2, e3, e4, e5, e6⟩ := sought_comp m (ps ++ [s]) S nd' ns (fun x hx => (List.mem_append.mp hx).elim (hs x) fun h => by rw [List.mem_singleton.mp h]; exact hsS) hst hc hl (by simp; omega)
        rw [sought_by hlk notall ht hos, ← hos]
        obtain ⟨is, f1, f2⟩ := better_le ((optsOf T D y).map fun s => (soughtN T D many m (ps ++ [s])).1) none js (.inr (List.mem_map.mpr ⟨s, hso, e1⟩))
        exact ⟨is, S', f1, e2, e3, fun x hx => e4 x (List.mem_append_left _ hx), e5, leI_total.trans _ _ _ f2 e6⟩
/-- all stands cover what isn't lost -/
theorem stands_cover : lackOf T D T.stands = [] := by
  cases h : lackOf T D T.stands with
  | nil => rfl
  | cons y ys =>
    have hy : y ∈ lackOf T D T.stands := by rw [h]; exact List.mem_cons_self
    obtain ⟨h1, h2⟩ := lack_iff.mp hy
    have hg : y ∈ outOf T (bareOf T D T.stands) T.places.length := h1
    obtain ⟨hp, hn⟩ := List.mem_filter.mp hg
    refine absurd (List.mem_filter.mpr ⟨hp, decide_eq_true h2⟩ : y ∈ bareOf T D T.stands) (of_decide_eq_true hn)
/-- at the first number with which something is found: it is of that many stands, and no greater than any covering list of so many -/
theorem first_found {is : List Int} (hn : ∀ k, k < many → (soughtN T D k 7 []).1 = none) (m5 : many ≤ 5) (h : (soughtN T D many 7 []).1 = some is) :
    (∃ qs : List Str, qs.Nodup ∧ (∀ z ∈ qs, z ∈ T.stands) ∧ lackOf T D qs = [] ∧ qs.length = many ∧ is = ordOf T qs) ∧
    ∀ S : List Str, S.Nodup → (∀ z ∈ S, z ∈ T.stands) → lackOf T D S = [] → many ≤ S.length ∧ (S.length = many → ∃ S' : List Str, S'.Perm S ∧ leI is (ordOf T S') = true) := by
  have less : ∀ S : List Str, S.Nodup → (∀ z ∈ S, z ∈ T.stands) → lackOf T D S = [] → many ≤ S.length := fun S ns hs hc => by
    refine Nat.not_lt.mp fun hlt => ?_
    obtain ⟨js, S', e, _⟩ := sought_comp (T := T) (D := D) (many := S.length) 7 [] S List.nodup_nil ns (fun _ h => (List.not_mem_nil h).elim) hs hc (Nat.le_refl _) (by simp; omega)
    rw [hn _ hlt] at e
    cases e
  refine ⟨?_, fun S ns hs hc => ⟨less S ns hs hc, fun hl => ?_⟩⟩
  · obtain ⟨qs, q1, q2, _, q4, q5, q6⟩ := sought_sound (T := T) (D := D) (many := many) 7 [] is List.nodup_nil (fun _ h => (List.not_mem_nil h).elim) (Nat.zero_le _) h
    exact ⟨qs, q1, q2, q4, Nat.le_antisymm q5 (less qs q1 q2 q4), q6⟩
  · obtain ⟨js, S', e, e2, e3, _, e5, e6⟩ := sought_comp (T := T) (D := D) (many := many) 7 [] S List.nodup_nil ns (fun _ h => (List.not_mem_nil h).elim) hs hc (by omega) (by simp; omega)
    rw [h] at e
    cases e
    have hl' := less S' e2 (fun z hz => hs z (e3 z hz)) e5
    have sub : ∀ z ∈ S, z ∈ S' := all_in e2 ns e3 (by omega)
    exact ⟨S', (List.perm_ext_iff_of_nodup e2 ns).mpr fun a => ⟨e3 a, sub a⟩, e6⟩
end


/-! ### fewest posts -/
theorem ord_range {T : Tn} {qs : List Str} (h : ∀ z ∈ qs, z ∈ T.stands) : ∀ i ∈ ordOf T qs, 0 ≤ i ∧ i.toNat < T.stands.length := fun i hi => by
  obtain ⟨s, hs, rfl⟩ := List.mem_map.mp ((List.mergeSort_perm _ _).mem_iff.mp hi)
  exact ⟨Int.natCast_nonneg _, by rw [Int.toNat_natCast]; exact pIx_lt (h s hs)⟩
theorem made_std {CN CS t c : Addr} {T : Tn} {D : Tab} {H : Hp} {Q : VK} (hT : TnAt H t T) (p10 : T.places.length ≤ 10) (hc : ChAt H c T.places.length D) (ls : T.stands.length ≤ 30) (ms : ∀ z ∈ T.stands, z ∈ T.places)
    (q : ∀ i H', H i = none → Keep [] H H' → StdAt CN CS H' i T D → Q (.ref i) H') : MadeAt (spStdNew CN CS) E0 CS [.ref t, .ref c] H Q := by
  intro i d ni nd ne
  have k := made_keep (C := CS) ni nd ne
  exact ⟨i, t, c, d, T, D, rfl, upd_same, hT.keep k noTup0, p10, hc.keep k, ls, ms, fun H' k' na => ⟨rfl, q i H' ni (k.past k' ni) na⟩⟩
def nameOf (T : Tn) (is : List Int) : List Str := is.map fun i => T.stands.getD i.toNat ""


/-! ### sets of numbers, in order -/
def IlAt (H : Hp) (x : V) (is : List Int) : Prop := ∃ p, x = .ref p ∧ H p = some (.lst (is.map V.int))
theorem il_keep0 {H H' : Hp} {vs : List V} {ss : List (List Int)} (h : EI (IlAt H) vs ss) (k : Keep [] H H') : EI (IlAt H') vs ss := h.mono fun _ _ ⟨p, e, f⟩ => ⟨p, e, k _ _ nin0 f⟩
theorem il_refs {H : Hp} : ∀ {vs : List V} {ss : List (List Int)}, EI (IlAt H) vs ss → ∀ y ∈ vs, ∃ q, y = V.ref q
  | _, _, .nil, _, h => (List.not_mem_nil h).elim
  | _, _, .cons ⟨p, e, _⟩ t, y, h => by
    rcases List.mem_cons.mp h with rfl | h
    · exact ⟨p, e⟩
    · exact il_refs t y h
theorem il_ne {H : Hp} {p b : Addr} {is : List Int} {acc : List V} (f : H p = some (.lst (is.map V.int))) (ne : is ≠ []) (e : H b = some (.lst acc)) (r : ∀ y ∈ acc, ∃ q, y = V.ref q) : p ≠ b := fun z => by
  rw [z, e] at f
  have f' : acc = is.map V.int := by injection f with f; injection f
  cases is with
  | nil => exact ne rfl
  | cons i is =>
    obtain ⟨q, hq⟩ := r (.int i) (by rw [f']; exact List.mem_cons_self)
    cases hq
theorem il_keep1 {H H' : Hp} {b : Addr} {acc vs : List V} {ss : List (List Int)} (h : EI (IlAt H) vs ss) (k : Keep [b] H H') (e : H b = some (.lst acc)) (r : ∀ y ∈ acc, ∃ q, y = V.ref q) (ne : ∀ s ∈ ss, s ≠ []) : EI (IlAt H') vs ss := by
  induction h with
  | nil => exact .nil
  | cons h t ih =>
    obtain ⟨p, e1, f⟩ := h
    exact .cons ⟨p, e1, k _ _ (nin1 (il_ne f (ne _ List.mem_cons_self) e r)) f⟩ (ih fun s hs => ne s (List.mem_cons_of_mem _ hs))
def nextB (s : List Int) (k : Nat) : Bool := match s.getLast? with
  | none => true
  | some l => decide (l < (k : Int))
def longerN (many : Nat) (s : List Int) : List (List Int) := ((List.range many).filter (nextB s)).map fun (k : Nat) => s ++ [(k : Int)]
def setsN (many : Nat) : Nat → List (List Int)
  | 0 => [[]]
  | n + 1 => (setsN many n).flatMap (longerN many)
theorem longer_ne {many : Nat} {s x : List Int} (h : x ∈ longerN many s) : x ≠ [] := by
  obtain ⟨k, _, rfl⟩ := List.mem_map.mp h
  simp
theorem longer_len {many : Nat} {s : List Int} : (longerN many s).length ≤ many := by
  unfold longerN
  rw [List.length_map]
  have := List.length_filter_le (nextB s) (List.range many)
  rwa [List.length_range] at this
theorem sets_len {many n : Nat} : ∀ s ∈ setsN many n, s.length = n := by
  induction n with
  | zero => intro s hs; rw [List.mem_singleton.mp hs]; rfl
  | succ n ih =>
    intro s hs
    obtain ⟨t, ht, h⟩ := List.mem_flatMap.mp hs
    obtain ⟨k, _, rfl⟩ := List.mem_map.mp h
    rw [List.length_append, ih t ht]
    rfl
theorem flat_len2 {many : Nat} : ∀ ss : List (List Int), (ss.flatMap (longerN many)).length ≤ ss.length * many
  | [] => by simp
  | s :: ss => by
    have h1 := longer_len (many := many) (s := s)
    have h2 := flat_len2 (many := many) ss
    rw [List.flatMap_cons, List.length_append, List.length_cons, Nat.add_mul]
    omega
theorem sets_few {many n : Nat} (h : many ≤ 5) : n ≤ 5 → (setsN many n).length ≤ 5 ^ n := by
  induction n with
  | zero => intro _; exact Nat.le_refl _
  | succ n ih =>
    intro hn
    have h1 := ih (by omega)
    have h2 := flat_len2 (many := many) (setsN many n)
    have h3 : (setsN many n).length * many ≤ 5 ^ n * 5 := Nat.mul_le_mul h1 h
    exact Nat.le_trans h2 h3
theorem last_ix {H : Hp} {K : PySem.W.Frag} {p : Addr} {s : List Int} {l : Int} {Q : VK} (f : H p = some (.lst (s.map V.int))) (e : s.getLast? = some l) (h64 : s.length ≤ 100) (q : Q (.int l) H) : uIx K (.ref p) (.int (-1)) H Q := by
  have ne : s ≠ [] := fun h => by rw [h] at e; cases e
  have hp := List.length_pos_iff.mpr ne
  refine g_ixL f ?_ q
  have : (s.map V.int)[s.length - 1]? = some (.int l) := by
    rw [List.getElem?_map, ← List.getLast?_eq_getElem?, e]
    rfl
  unfold atI ixN
  rw [List.length_map, if_neg (by decide), if_pos (by omega)]
  show (s.map V.int)[((-1 : Int) + (s.length : Int)).toNat]? = _
  rw [show ((-1 : Int) + (s.length : Int)).toNat = s.length - 1 by omega]
  exact this
theorem ei_app {α β : Type} {R : α → β → Prop} : ∀ {a b : List α} {c d : List β}, EI R a c → EI R b d → EI R (a ++ b) (c ++ d)
  | _, _, _, _, .nil, h => h
  | _, _, _, _, .cons h t, h2 => .cons h (ei_app t h2)
def spSets : Sp := fun vs H Q _ => ∃ many size : Nat, vs = [.int (many : Nat), .int (size : Nat)] ∧ many ≤ 5 ∧ size ≤ 5 ∧ ∀ l H' lv, H l = none → Keep [] H H' → H' l = some (.lst lv) → EI (IlAt H') lv (setsN many size) → Q (.ref l) H'
theorem rd_sets (K : PySem.W.Frag) : ∀ vs H Q E, spSets vs H Q E → run (t__law_sets K) (L2.start N__law_sets vs) H Q := by
  rintro _ H Q _ ⟨many, size, rfl, m5, s5, q⟩
  show run (t__law_sets K) [some (.int (many : Nat)), some (.int (size : Nat)), none, none, none, none, none] H Q
  unfold t__law_sets
  walk_at "sx"
  refine ⟨by walk_at "sz", fun e0 H1 n1 k1 f1 => ⟨by walk_at "sz", fun fl H2 n2 k2 f2 => ?_⟩⟩
  walk_at "sx"
  refine g_FR1 (by omega) (by omega) ⟨fun i σ H' => ∃ (F : Addr) (fv : List V) (y3 y4 y5 y6 : Option V), σ = [some (.int (many : Nat)), some (.int (size : Nat)), some (.ref F), y3, y4, y5, y6] ∧ Keep [] H H' ∧ H F = none ∧ H' F = some (.lst fv) ∧ EI (IlAt H') fv (setsN many i), ⟨fl, _, _, _, _, _, rfl, k1.trans k2, k1.free nin0 n2, f2, .cons ⟨e0, rfl, k2 _ _ nin0 f1⟩ .nil⟩, ?_, ?_⟩
  · rintro i σ H3 hi ⟨F, fv, y3, y4, y5, y6, rfl, k3, nF, eF, ef⟩
    have hi' : i < size := by omega
    unfold t__law_sets_b2
    walk_at "sx"
    refine ⟨by walk_at "sz", fun L H4 nL k4 eL => ?_⟩
    walk_at "sx"
    have nL0 : H L = none := k3.free nin0 nL
    have nFL : F ≠ L := ne_of_none eF nL
    have efL : EI (fun x s => ∃ p, x = V.ref p ∧ p ≠ L ∧ H4 p = some (.lst (s.map V.int))) fv (setsN many i) := ef.mono fun _ _ ⟨p, e, f⟩ => ⟨p, e, ne_of_none f nL, k4 _ _ nin0 f⟩
    refine g_FEs (RR := fun H x (s : List Int) => ∃ p, x = V.ref p ∧ p ≠ L ∧ H p = some (.lst (s.map V.int))) [L] (.inl (k4 _ _ nin0 eF)) (nin1 nFL) efL (fun H' x r ⟨p, e, n, f⟩ k => ⟨p, e, n, k _ _ (nin1 n) f⟩) (fun j σ H' => ∃ (y5 y6 : Option V) (lv : List V), σ = [some (.int (many : Nat)), some (.int (size : Nat)), some (.ref F), some (.int (i : Nat)), some (.ref L), y5, y6] ∧ H' L = some (.lst lv) ∧ EI (IlAt H') lv (((setsN many i).take j).flatMap (longerN many))) ⟨_, _, [], rfl, eL, .nil⟩ ?_ ?_
    · rintro j x s σ H5 hj k5 ⟨p, rfl, npL, fp⟩ ⟨z5, z6, lv, rfl, eL5, el⟩
      walk_at "sx"
      unfold t__law_sets_b1
      walk_at "sx"
      have layI : ∀ is : List Int, PyData.canLayAll0 (is.map PyData.int) = true := fun is => by
        induction is with
        | nil => rfl
        | cons i is ih => simp [PyData.canLayAll0, PyData.canLay0, ih]
      have hsl : s.length = i := sets_len s (List.mem_of_getElem? hj)
      have hjl := (List.getElem?_eq_some_iff.mp hj).1
      have few := sets_few (many := many) (n := i) m5 (by omega)
      have p5 : 5 ^ i ≤ 5 ^ 5 := Nat.pow_le_pow_right (by decide) (by omega)
      have p5' : (5 : Nat) ^ 5 = 3125 := by decide
      have lfl := flat_len2 (many := many) ((setsN many i).take j)
      have ltk : ((setsN many i).take j).length ≤ 625 := by
        have h4 : 5 ^ i ≤ 5 ^ 4 := Nat.pow_le_pow_right (by decide) (by omega)
        have h4' : (5 : Nat) ^ 4 = 625 := by decide
        rw [List.length_take]
        omega
      have lmul : ((setsN many i).take j).length * many ≤ 625 * 5 := Nat.mul_le_mul ltk m5
      have k05 : Keep [] H H5 := (k3.trans k4).past k5 nL0
      refine ⟨.inl ⟨rfl, _, .inl (.inl eL5)⟩, ?_⟩
      refine g_CR1 (S := []) (fun _ h => (List.not_mem_nil h).elim) (by omega) (by omega) ⟨fun k H' acc => EI (IlAt H') acc (((List.range k).filter (nextB s)).map fun (k : Nat) => s ++ [(k : Int)]), fun _ _ _ _ => .nil, ?_, ?_⟩
      · rintro D k H6 acc R R0 nD hk k6 eD hacc hR hR0
        have hk' : k < many := by omega
        have fp6 := k6 _ _ nin0 fp
        have lacc : acc.length ≤ 5 := by
          rw [hacc.length, List.length_map]
          have := List.length_filter_le (nextB s) (List.range k)
          rw [List.length_range] at this
          omega
        have ne' : ∀ x ∈ ((List.range k).filter (nextB s)).map (fun (k : Nat) => s ++ [(k : Int)]), x ≠ [] := fun x hx => by
          obtain ⟨k, _, rfl⟩ := List.mem_map.mp hx
          simp
        have rng : (List.range (k + 1)).filter (nextB s) = (List.range k).filter (nextB s) ++ (if nextB s k = true then [k] else []) := by
          rw [List.range_succ, List.filter_append]
          congr 1
          by_cases e : nextB s k = true
          · simp [e]
          · simp [e]
        have yes : ∀ H7, Keep [] H6 H7 → nextB s k = true → [V.int (k : Int)].length ≤ sizeLine ∧ Mk H7 (.lst [V.int (k : Int)]) fun y H8 => uAdd K (.ref p) y H8 R := fun H7 k7 hb => by
          refine ⟨by walk_at "sz", fun e1 H8 n8 k8 f8 => g_addL ((k7.trans k8) _ _ nin0 fp6) f8 (by rw [List.length_map]; exact len_le (by simp; omega)) fun r H9 n9 k9 f9 => ?_⟩
          have k69 := k7.trans (k8.trans k9)
          refine hR _ _ k69 (len_lt (by omega)) fun H10 k10 => ?_
          have eD9 := k69 _ _ nin0 eD
          have f9' : H9 r = some (.lst ((s ++ [(k : Int)]).map V.int)) := by rw [f9, List.map_append]; rfl
          dsimp only
          rw [rng, if_pos hb, List.map_append]
          exact ei_snoc (R := IlAt H10) ⟨r, rfl, k10 _ _ (nin1 (il_ne f9' (by simp) eD9 (il_refs hacc))) f9'⟩ (il_keep1 (il_keep0 hacc k69) k10 eD9 (il_refs hacc) ne')
        have no : ∀ H7, Keep [] H6 H7 → nextB s k = false → R0 H7 := fun H7 k7 hb => by
          refine hR0 _ k7 ?_
          dsimp only
          rw [rng, if_neg (by simp [hb]), List.append_nil]
          exact il_keep0 hacc k7
        walk_at "sx"
        refine ⟨by walk_at "sz", fun e0 H7 n7 k7 f7 => ?_⟩
        have fp7 := k7 _ _ nin0 fp6
        refine .inr ⟨.list (s.map .int), .list [], .lst (lst_sq fp7) (dp_ints2 s), .lst (lst_sq f7) .nil, by
          unfold SeqAt.shaped
          rw [Bool.and_eq_true_iff]
          exact ⟨by simp [PyData.canLay0, layI], decide_eq_true (by simp [PyData.depth, depth_ints2])⟩, by decide +kernel, ?_⟩
        rw [if_neg (by decide)]
        cases hl : s.getLast? with
        | none =>
          have hs0 : s = [] := List.getLast?_eq_none_iff.mp hl
          subst hs0
          refine ⟨true, rfl, ?_⟩
          rw [if_pos rfl]
          exact yes _ k7 rfl
        | some l =>
          have hb : nextB s k = decide (l < (k : Int)) := by unfold nextB; rw [hl]
          have hsn : s ≠ [] := fun h => by rw [h] at hl; cases hl
          refine ⟨false, by cases s with | nil => exact absurd rfl hsn | cons _ _ => rfl, ?_⟩
          rw [if_neg (by decide)]
          refine last_ix fp7 hl (by omega) ?_
          walk_at "sx"
          by_cases hlt : l < (k : Int)
          · rw [if_pos hlt]
            exact yes _ k7 (by rw [hb]; exact decide_eq_true hlt)
          · rw [if_neg hlt]
            exact no _ k7 (by rw [hb]; exact decide_eq_false hlt)
      · rintro D H6 acc nD k6 eD hacc
        rw [Int.toNat_natCast] at hacc
        have eL6 := k6 _ _ nin0 eL5
        have hacc' : EI (IlAt H6) acc (longerN many s) := hacc
        have lx := longer_len (many := many) (s := s)
        refine ⟨L, D, lv, acc, rfl, rfl, eL6, eD, by rw [el.length, hacc'.length]; exact len_le (by omega), fun H7 k7 e7 => ⟨k5.trans (k6.all.trans k7), _, _, _, rfl, e7, ?_⟩⟩
        rw [List.take_succ, hj, List.flatMap_append]
        have r1 := il_refs el
        refine ei_app ?_ ?_
        · exact il_keep1 (il_keep0 el k6) k7 eL6 r1 fun x hx => by
            obtain ⟨t, _, h⟩ := List.mem_flatMap.mp hx
            exact longer_ne h
        · have e : (some s).toList.flatMap (longerN many) = longerN many s := by simp
          rw [e]
          exact il_keep1 hacc' k7 eL6 r1 fun x hx => longer_ne hx
    · rintro σ H5 k5 ⟨z5, z6, lv, rfl, eL5, el⟩
      rw [List.take_length] at el
      unfold t__law_sets_r1
      walk_at "sx"
      exact ⟨L, lv, _, _, _, _, rfl, (k3.trans k4).past k5 nL0, nL0, eL5, el⟩
  · rintro σ H3 ⟨F, fv, y3, y4, y5, y6, rfl, k3, nF, eF, ef⟩
    rw [Int.toNat_natCast] at ef
    unfold t__law_sets_r2
    walk_at "sx"
    exact q F H3 fv nF k3 eF ef


/-! ### the sets in order, and what is found first -/
theorem ltI_eq (a b : List Int) : ltI a b = decide (a < b) := (PySem.W.dataLt_list _ _).trans (PySem.W.dataLt_ints a b)
theorem app_lt : ∀ (s : List Int) {x y : Int}, x < y → s ++ [x] < s ++ [y]
  | [], x, y, h => List.cons_lt_cons_iff.mpr (.inl h)
  | a :: s, x, y, h => List.cons_lt_cons_iff.mpr (.inr ⟨rfl, app_lt s h⟩)
theorem lt_app : ∀ {s t : List Int} (x y : List Int), s < t → s.length = t.length → s ++ x < t ++ y
  | [], [], x, y, h, _ => absurd h (by simp)
  | [], _ :: _, x, y, _, l => by simp at l
  | _ :: _, [], x, y, _, l => by simp at l
  | a :: s, b :: t, x, y, h, l => by
    rcases List.cons_lt_cons_iff.mp h with h | ⟨h, h'⟩
    · exact List.cons_lt_cons_iff.mpr (.inl h)
    · exact List.cons_lt_cons_iff.mpr (.inr ⟨h, lt_app x y h' (by simpa using l)⟩)
def Ris (n : Nat) (s : List Int) : Prop := s.Pairwise (· < ·) ∧ ∀ x ∈ s, 0 ≤ x ∧ x < n
theorem longer_pw (n : Nat) (s : List Int) : (longerN n s).Pairwise (· < ·) := by
  unfold longerN
  rw [List.pairwise_map]
  refine ((List.pairwise_lt_range (n := n)).filter _).imp fun h => app_lt s (by omega)
theorem sets_pw (n : Nat) : ∀ m, (setsN n m).Pairwise (· < ·)
  | 0 => List.pairwise_singleton _ _
  | m + 1 => by
    refine List.pairwise_flatMap.mpr ⟨fun s _ => longer_pw n s, ?_⟩
    refine List.Pairwise.imp_of_mem (fun {a b} ha hb h => ?_) (sets_pw n m)
    intro x hx y hy
    obtain ⟨k, _, rfl⟩ := List.mem_map.mp hx
    obtain ⟨j, _, rfl⟩ := List.mem_map.mp hy
    exact lt_app _ _ h (by rw [sets_len a ha, sets_len b hb])
theorem last_max {s : List Int} {l : Int} (h : s.Pairwise (· < ·)) (e : s.getLast? = some l) : ∀ x ∈ s, x ≤ l := fun x hx => by
  obtain ⟨t, rfl⟩ := List.getLast?_eq_some_iff.mp e
  rcases List.mem_append.mp hx with hx | hx
  · exact Int.le_of_lt ((List.pairwise_append.mp h).2.2 x hx l (by simp))
  · rw [List.mem_singleton.mp hx]; exact Int.le_refl _
theorem sets_ris {n : Nat} : ∀ {m : Nat} {s : List Int}, s ∈ setsN n m → Ris n s
  | 0, s, h => by rw [List.mem_singleton.mp h]; exact ⟨.nil, fun _ h => (List.not_mem_nil h).elim⟩
  | m + 1, s, h => by
    obtain ⟨t, ht, h⟩ := List.mem_flatMap.mp h
    obtain ⟨k, hk, rfl⟩ := List.mem_map.mp h
    obtain ⟨hk, hb⟩ := List.mem_filter.mp hk
    have hk := List.mem_range.mp hk
    obtain ⟨r1, r2⟩ := sets_ris ht
    refine ⟨List.pairwise_append.mpr ⟨r1, List.pairwise_singleton _ _, fun a ha b hb' => ?_⟩, fun x hx => ?_⟩
    · rw [List.mem_singleton.mp hb']
      unfold nextB at hb
      cases e : t.getLast? with
      | none => rw [List.getLast?_eq_none_iff.mp e] at ha; cases ha
      | some l =>
        rw [e] at hb
        have := of_decide_eq_true hb
        have := last_max r1 e a ha
        omega
    · rcases List.mem_append.mp hx with hx | hx
      · exact r2 x hx
      · rw [List.mem_singleton.mp hx]; omega
theorem ris_sets {n : Nat} : ∀ {m : Nat} {s : List Int}, s.length = m → Ris n s → s ∈ setsN n m
  | 0, s, h, _ => by rw [List.length_eq_zero_iff.mp h]; exact List.mem_singleton.mpr rfl
  | m + 1, s, h, r => by
    have hne : s ≠ [] := fun e => by rw [e] at h; cases h
    obtain ⟨t, l, rfl⟩ : ∃ t l, s = t ++ [l] := ⟨s.dropLast, s.getLast hne, (List.dropLast_concat_getLast hne).symm⟩
    obtain ⟨r1, r2⟩ := r
    obtain ⟨p1, _, p3⟩ := List.pairwise_append.mp r1
    have hl := r2 l (by simp)
    refine List.mem_flatMap.mpr ⟨t, ris_sets (by simpa using h) ⟨p1, fun x hx => r2 x (List.mem_append_left _ hx)⟩, ?_⟩
    have el : ((l.toNat : Nat) : Int) = l := by omega
    refine List.mem_map.mpr ⟨l.toNat, List.mem_filter.mpr ⟨List.mem_range.mpr (by omega), ?_⟩, by rw [el]⟩
    unfold nextB
    cases e : t.getLast? with
    | none => rfl
    | some x =>
      refine decide_eq_true ?_
      rw [el]
      exact p3 x (List.mem_of_getLast? e) l (by simp)
section
variable {T : Tn} {D : Tab} {many : Nat}
theorem pIx_get {ys : List Str} (nd : ys.Nodup) {i : Nat} (h : i < ys.length) : pIx ys (ys.getD i "") = i := by
  have hm : ys.getD i "" ∈ ys := by rw [List.getD_eq_getElem?_getD, List.getElem?_eq_getElem h]; exact List.getElem_mem _
  have e := pIx_at hm
  have h2 := pIx_lt hm
  rw [List.getElem?_eq_getElem h2] at e
  have e3 : ys.getD i "" = ys[i] := by rw [List.getD_eq_getElem?_getD, List.getElem?_eq_getElem h]; rfl
  exact (List.getElem_inj nd).mp ((Option.some.inj e).trans e3)
theorem get_pIx {ys : List Str} {z : Str} (h : z ∈ ys) : ys.getD (pIx ys z) "" = z := by
  rw [List.getD_eq_getElem?_getD, pIx_at h]; rfl
theorem pIx_eq {ys : List Str} {y z : Str} (hy : y ∈ ys) (hz : z ∈ ys) (h : pIx ys y = pIx ys z) : y = z := by
  rw [← get_pIx hy, ← get_pIx hz, h]
theorem ord_perm (qs : List Str) : (ordOf T qs).Perm (qs.map fun s => ((pIx T.stands s : Nat) : Int)) := List.mergeSort_perm _ _
theorem dle_int {a b : Int} : PySem.W.dataLe false PyData.int a b = true ↔ a ≤ b := by
  show (!PySem.W.dataLt (.int b) (.int a)) = true ↔ _
  rw [PySem.W.dataLt_int]
  simp
theorem dle_total : PySem.W.TotalLe (PySem.W.dataLe false PyData.int) := PySem.W.sortLe_total _ false _
theorem ord_ris {qs : List Str} (nd : qs.Nodup) (h : ∀ z ∈ qs, z ∈ T.stands) : Ris T.stands.length (ordOf T qs) := by
  refine ⟨?_, fun i hi => by have := ord_range h i hi; omega⟩
  have s : (ordOf T qs).Pairwise fun a b => PySem.W.dataLe false PyData.int a b = true := List.pairwise_mergeSort (fun a b c => dle_total.trans a b c) (fun a b => by have := dle_total.total a b; simpa using this) _
  have n : (ordOf T qs).Nodup := by
    rw [(ord_perm qs).nodup_iff]
    refine List.pairwise_map.mpr ?_
    refine List.Pairwise.imp_of_mem (fun {a b} ha hb ne e => ne (pIx_eq (h a ha) (h b hb) (by omega))) nd
  refine (s.and n).imp fun ⟨a, b⟩ => ?_
  have := dle_int.mp a
  omega
theorem name_ord {qs : List Str} (h : ∀ z ∈ qs, z ∈ T.stands) : (nameOf T (ordOf T qs)).Perm qs := by
  refine ((ord_perm qs).map _).trans ?_
  rw [List.map_map]
  have e : qs.map ((fun i : Int => T.stands.getD i.toNat "") ∘ fun s => ((pIx T.stands s : Nat) : Int)) = qs := by
    conv => rhs; rw [← List.map_id qs]
    refine List.map_congr_left fun z hz => ?_
    show T.stands.getD ((pIx T.stands z : Nat) : Int).toNat "" = z
    rw [Int.toNat_natCast, get_pIx (h z hz)]
  rw [e]
theorem name_in {s : List Int} (r : Ris T.stands.length s) : ∀ z ∈ nameOf T s, z ∈ T.stands := fun z hz => by
  obtain ⟨i, hi, rfl⟩ := List.mem_map.mp hz
  have := r.2 i hi
  rw [List.getD_eq_getElem?_getD, List.getElem?_eq_getElem (show i.toNat < T.stands.length by omega)]
  exact List.getElem_mem _
theorem name_pIx (nds : T.stands.Nodup) {s : List Int} (r : Ris T.stands.length s) : (nameOf T s).map (fun z => ((pIx T.stands z : Nat) : Int)) = s := by
  unfold nameOf
  rw [List.map_map]
  conv => rhs; rw [← List.map_id s]
  refine List.map_congr_left fun i hi => ?_
  have := r.2 i hi
  show ((pIx T.stands (T.stands.getD i.toNat "") : Nat) : Int) = i
  rw [pIx_get nds (by omega)]
  omega
theorem name_nd (nds : T.stands.Nodup) {s : List Int} (r : Ris T.stands.length s) : (nameOf T s).Nodup := by
  have e := name_pIx nds r
  have n : s.Nodup := r.1.imp fun h => by omega
  rw [← e] at n
  exact (List.pairwise_map.mp n).imp fun h e => h (by rw [e])
theorem ord_name (nds : T.stands.Nodup) {s : List Int} (r : Ris T.stands.length s) : ordOf T (nameOf T s) = s := by
  unfold ordOf
  rw [name_pIx nds r]
  exact List.mergeSort_of_pairwise (r.1.imp fun h => dle_int.mpr (by omega))
theorem ord_eq {S S' : List Str} (h : S'.Perm S) (hs : ∀ z ∈ S, z ∈ T.stands) (n : S.Nodup) : ordOf T S' = ordOf T S := by
  refine List.Perm.eq_of_pairwise (le := fun a b => a < b) (fun a b _ _ h1 h2 => by omega) (ord_ris (h.nodup_iff.mpr n) fun z hz => hs z (h.mem_iff.mp hz)).1 (ord_ris n hs).1 ?_
  exact (ord_perm S').trans ((h.map _).trans (ord_perm S).symm)
theorem lack_perm {S S' : List Str} (h : S'.Perm S) (e : lackOf T D S = []) : lackOf T D S' = [] := lack_nil (fun z hz => h.mem_iff.mpr hz) e
structure Fst (T : Tn) (D : Tab) (many : Nat) (is : List Int) : Prop where
  ris : Ris T.stands.length is
  len : is.length = many
  cov : lackOf T D (nameOf T is) = []
  less : ∀ S : List Str, S.Nodup → (∀ z ∈ S, z ∈ T.stands) → lackOf T D S = [] → many ≤ S.length
  fst : ∀ S : List Str, S.Nodup → (∀ z ∈ S, z ∈ T.stands) → lackOf T D S = [] → S.length = many → ¬ ordOf T S < is
theorem fst_of {is : List Int} (hn : ∀ k, k < many → (soughtN T D k 7 []).1 = none) (m5 : many ≤ 5) (h : (soughtN T D many 7 []).1 = some is) : Fst T D many is := by
  obtain ⟨⟨qs, q1, q2, q3, q4, rfl⟩, q6⟩ := first_found hn m5 h
  refine ⟨ord_ris q1 q2, by rw [(ord_perm qs).length_eq, List.length_map, q4], lack_perm (name_ord q2) q3, fun S a b c => (q6 S a b c).1, fun S a b c d hlt => ?_⟩
  obtain ⟨S', p, le⟩ := (q6 S a b c).2 d
  rw [ord_eq p b a, leI_iff, ltI_eq] at le
  exact absurd hlt (of_decide_eq_false le)
end


theorem shaped_list {ds : List PyData} (h1 : PyData.canLayAll0 ds = true) (h2 : PyData.depthAll ds ≤ 4) : SeqAt.shaped (.list ds) = true := by
  unfold SeqAt.shaped
  rw [Bool.and_eq_true_iff]
  refine ⟨by simp [PyData.canLay0, h1], decide_eq_true ?_⟩
  simp [PyData.depth]
  omega
theorem dp_strsN {K : PySem.W.Frag} {H : Hp} : ∀ ys : List Str, DpAll K H (ys.map V.str) (ys.map PyData.str)
  | [] => .nil
  | y :: ys => .cons (.str y) (dp_strsN ys)
theorem ne_nilN {K : PySem.W.Frag} {H : Hp} {a b : Addr} {ys : List Str} {Q : VK} (nm : ∀ y ∈ ys, NmS 30 y) (h : H a = some (.lst (ys.map V.str))) (e : H b = some (.lst [])) (q : Q (.bl (!decide (ys = []))) H) : uEq K true (.ref a) (.ref b) H Q := by
  obtain ⟨h1, h2⟩ := lay_strs nm
  refine .inr ⟨_, _, .lst (lst_sq h) (dp_strsN ys), .lst (lst_sq e) .nil, shaped_list h1 (by omega), by decide +kernel, ?_⟩
  rw [if_pos rfl]
  cases ys with
  | nil => exact q
  | cons y ys => exact q
theorem eq_nilN {K : PySem.W.Frag} {H : Hp} {a b : Addr} {ys : List Str} {Q : VK} (nm : ∀ y ∈ ys, NmS 30 y) (h : H a = some (.lst (ys.map V.str))) (e : H b = some (.lst [])) (q : Q (.bl (decide (ys = []))) H) : uEq K false (.ref a) (.ref b) H Q := by
  obtain ⟨h1, h2⟩ := lay_strs nm
  refine .inr ⟨_, _, .lst (lst_sq h) (dp_strsN ys), .lst (lst_sq e) .nil, shaped_list h1 (by omega), by decide +kernel, ?_⟩
  rw [if_neg (by decide)]
  cases ys with
  | nil => exact q
  | cons y ys => exact q
theorem lack_in {T : Tn} {D : Tab} {ps : List Str} : ∀ y ∈ lackOf T D ps, y ∈ T.places := fun y h => outOf_mem y (List.mem_filter.mp h).1
/-! ### the fewest, as the law seeks them -/
theorem stg_get {H H' : Hp} {s : Addr} {T : Tn} {D : Tab} (h : StgAt H s T D) (k : Keep [] H H') : ∃ as, DGet H' s (.str "stands") (some (.ref as)) ∧ Tup H' as (T.stands.map V.str) := by
  obtain ⟨kvs, as, b1, b2, b3⟩ := h.st
  refine ⟨as, ?_, b3.keep k nin0⟩
  have := DGet.k (k := (Sum.inr ("stands" : Str) : Key)) (k _ _ nin0 b1)
  rw [b2] at this
  exact this
/-- [stands[k] for k in some] -/
theorem names_of {K : PySem.W.Frag} {H : Hp} {Q : VK} {as p : Addr} {T : Tn} {s : List Int} {σ : L2.St} {x0 x1 x2 x3 x4 : Option V} (hσ : σ = [x0, x1, x2, x3, x4]) (h1 : x1 = some (.ref as))
    (ht : Tup H as (T.stands.map V.str)) (hs : H p = some (.lst (s.map V.int))) (r : Ris T.stands.length s) (l : s.length ≤ 10)
    (q : ∀ L H', H L = none → Keep [] H H' → H' L = some (.lst ((nameOf T s).map V.str)) → Q (.ref L) H') :
    CU K (gName 4) tYes (tOp (uIx K) (tVar 1) (tVar 4)) [4] σ Q (.ref p) H := by
  subst hσ h1
  refine g_CE (RR := fun _ (x : V) (i : Int) => x = V.int i) (.inl hs) (ei_map V.int (fun _ => rfl) s) (fun _ _ _ _ h _ => h) (fun j H' acc => acc = (nameOf T (s.take j)).map V.str) (fun _ _ _ _ => rfl) ?_ ?_
  · rintro L j _ i H3 acc R R0 nL hi k3 eL rfl rfl hR _
    have := r.2 i (List.mem_of_getElem? hi)
    walk_at "sx"
    refine g_ixT (ht.keep k3 nin0) (at_lit (v := .str (T.stands.getD i.toNat "")) i.toNat (by omega) (by rw [List.getElem?_map, List.getD_eq_getElem?_getD, List.getElem?_eq_getElem (show i.toNat < T.stands.length by omega)]; rfl)) ?_
    refine hR _ _ (Keep.refl _ _) (by simp only [nameOf, List.length_map, List.length_take]; exact len_lt (by omega)) fun H5 _ => ?_
    unfold nameOf
    rw [List.take_succ, hi, List.map_append, List.map_append]
    rfl
  · rintro L H3 acc nL k3 eL rfl
    rw [List.take_length] at eL
    exact q L H3 nL k3 eL
def spFewestL : Sp := fun vs H Q _ => ∃ (s : Addr) (T : Tn) (D : Tab) (many : Nat) (is : List Int), vs = [.ref s] ∧ StgAt H s T D ∧ TwOk T ∧ Fst T D many is ∧ 1 ≤ many ∧ many ≤ T.stands.length ∧
  ∀ p H', Keep [] H H' → Tup H' p ((nameOf T is).map V.str) → Q (.ref p) H'
theorem rd_fewestL (K : PySem.W.Frag) : ∀ vs H Q E, spFewestL vs H Q E → run (t__law_fewest K spSets spLeft) (L2.start N__law_fewest vs) H Q := by
  rintro _ H Q _ ⟨s, T, D, many, is, rfl, sg, ok, fs, m1, mS, q⟩
  show run (t__law_fewest K spSets spLeft) [some (.ref s), none, none, none, none] H Q
  have s5 := ok.s5
  unfold t__law_fewest
  walk_at "sx"
  obtain ⟨as, ds, tas⟩ := stg_get sg (Keep.refl _ _)
  refine ⟨s, .ref as, rfl, ds, ?_⟩
  refine g_lenT tas ?_
  walk_at "sx"
  rw [List.length_map]
  refine g_FR2 (by omega) (by omega) (by omega) (by omega) ⟨fun i σ H' => ∃ (y2 y3 y4 : Option V), σ = [some (.ref s), some (.ref as), y2, y3, y4] ∧ Keep [] H H' ∧ i < many, ⟨_, _, _, rfl, Keep.refl _ _, by omega⟩, ?_, ?_⟩
  · rintro i σ H1 hi ⟨y2, y3, y4, rfl, k1, him⟩
    unfold t__law_fewest_b2
    walk_at "sx"
    refine g_lenT (tas.keep k1 nin0) ?_
    rw [List.length_map]
    refine ⟨T.stands.length, i + 1, by rw [show (1 : Int) + (i : Int) = ((i + 1 : Nat) : Int) by omega], s5, by omega, fun l H2 lv n2 k2 e2 f2 => ?_⟩
    have k12 := k1.trans k2
    refine g_FEs (RR := IlAt) [] (.inl e2) nin0 f2 (fun H' x r ⟨p, e, f⟩ k => ⟨p, e, k _ _ nin0 f⟩) (fun j σ H' => ∃ (y3 y4 : Option V), σ = [some (.ref s), some (.ref as), some (.int (1 + (i : Int))), y3, y4] ∧ ∀ j', j' < j → ∀ t, (setsN T.stands.length (i + 1))[j']? = some t → lackOf T D (nameOf T t) ≠ []) ⟨_, _, rfl, fun _ h => by omega⟩ ?_ ?_
    · rintro j x t σ H3 hj k3 ⟨p, rfl, fp⟩ ⟨y3, y4, rfl, hno⟩
      have htm := List.mem_of_getElem? hj
      have rt := sets_ris htm
      have lt := sets_len t htm
      have k13 := k12.trans k3
      unfold t__law_fewest_b1
      walk_at "sx"
      refine names_of rfl rfl (tas.keep k13 nin0) fp rt (by omega) fun L H4 nL k4 eL => ?_
      have k14 := k13.trans k4
      have lnm : (nameOf T t).length = i + 1 := by unfold nameOf; rw [List.length_map, lt]
      refine ⟨s, L, T, D, nameOf T t, rfl, sg.keep k14, ok.p10, eL, by omega, fun z hz => ok.sp z (name_in rt z hz), fun l2 H5 n5 k5 e5 => ?_⟩
      refine ⟨by walk_at "sz", fun e0 H6 n6 k6 f6 => eq_nilN (fun y hy => ok.nm y (lack_in y hy)) (k6 _ _ nin0 e5) f6 ?_⟩
      have k16 := k14.trans (k5.trans k6)
      have k36 : Keep [] H3 H6 := k4.trans (k5.trans k6)
      refine ⟨_, rfl, ?_⟩
      by_cases hc : lackOf T D (nameOf T t) = []
      · rw [decide_eq_true hc, if_pos rfl]
        have nn := name_nd ok.nds rt
        have hl := fs.less _ nn (name_in rt) hc
        have hm : i + 1 = many := by omega
        have hge : ¬ t < is := by
          have := fs.fst _ nn (name_in rt) hc (by omega)
          rwa [ord_name ok.nds rt] at this
        have hin : is ∈ setsN T.stands.length (i + 1) := ris_sets (by rw [fs.len, hm]) fs.ris
        obtain ⟨j0, hj0, ej0⟩ := List.getElem_of_mem hin
        have e : t = is := by
          have hj2 := (List.getElem?_eq_some_iff.mp hj)
          rcases Nat.lt_trichotomy j0 j with h | h | h
          · exact absurd fs.cov (hno j0 h is (by rw [List.getElem?_eq_getElem hj0, ej0]))
          · subst h
            rw [List.getElem?_eq_getElem hj0, ej0] at hj
            exact (Option.some.inj hj).symm
          · obtain ⟨hj3, ej3⟩ := hj2
            have := List.pairwise_iff_getElem.mp (sets_pw T.stands.length (i + 1)) j j0 hj3 hj0 h
            rw [ej3, ej0] at this
            exact absurd this hge
        subst e
        walk_at "sx"
        refine names_of rfl rfl (tas.keep k16 nin0) (k36 _ _ nin0 fp) rt (by omega) fun L2 H7 nL2 k7 eL2 => ?_
        exact g_tupleL eL2 fun pp H8 n8 k8 t8 => q pp H8 (k16.trans (k7.trans k8)) t8
      · rw [decide_eq_false hc, if_neg (by decide)]
        refine ⟨k3.trans k36, _, _, rfl, fun j' hj' t' et => ?_⟩
        by_cases h : j' < j
        · exact hno j' h t' et
        · have : j' = j := by omega
          subst this
          rw [hj] at et
          exact Option.some.inj et ▸ hc
    · rintro σ H3 k3 ⟨y3, y4, rfl, hno⟩
      refine ⟨_, _, _, rfl, k12.trans k3, ?_⟩
      refine Nat.lt_of_le_of_ne him fun e => ?_
      have hin : is ∈ setsN T.stands.length (i + 1) := ris_sets (by rw [fs.len]; exact e.symm) fs.ris
      obtain ⟨j0, hj0, ej0⟩ := List.getElem_of_mem hin
      exact hno j0 hj0 is (by rw [List.getElem?_eq_getElem hj0, ej0]) fs.cov
  · rintro σ H1 ⟨y2, y3, y4, rfl, k1, him⟩
    omega


/-! ### data of any kind that lies beside a pen -/
theorem nin2 {a b c : Addr} (h1 : a ≠ b) (h2 : a ≠ c) : a ∉ [b, c] := fun h => by
  rcases List.mem_cons.mp h with h | h
  · exact h1 h
  · exact h2 (List.mem_singleton.mp h)
mutual
inductive Da (p : List Addr) (H : Hp) : V → PyData → Prop
  | non : Da p H .non .none
  | bl (b : Bool) : Da p H (.bl b) (.bool b)
  | int (i : Int) : Da p H (.int i) (.int i)
  | str (z : Str) : Da p H (.str z) (.str z)
  | lst {a : Addr} {xs : List V} {ds : List PyData} : H a = some (.lst xs) → a ∉ p → DaL p H xs ds → Da p H (.ref a) (.list ds)
  | tup {a : Addr} {xs : List V} {ds : List PyData} : Tup H a xs → DaL p H xs ds → Da p H (.ref a) (.tuple ds)
  | dic {a : Addr} {kvs : List (Key × V)} {vs : List V} {ds : List PyData} : H a = some (.dK kvs) → a ∉ p → vs = kvs.map (·.2) → DaL p H vs ds → Da p H (.ref a) (.dict ((kvs.map fun p => keyD p.1).zip ds))
inductive DaL (p : List Addr) (H : Hp) : List V → List PyData → Prop
  | nil : DaL p H [] []
  | cons {v : V} {vs : List V} {d : PyData} {ds : List PyData} : Da p H v d → DaL p H vs ds → DaL p H (v :: vs) (d :: ds)
end
mutual
theorem Da.dr {K : PySem.W.Frag} {p : List Addr} {H : Hp} : ∀ {v : V} {d : PyData}, Da p H v d → Dr K H v d
  | _, _, .non => .dp .non
  | _, _, .bl b => .dp (.bl b)
  | _, _, .int i => .dp (.int i)
  | _, _, .str z => .dp (.str z)
  | _, _, .lst h _ r => .lst h (DaL.dr r)
  | _, _, .tup h r => .tup h (DaL.dr r)
  | _, _, .dic h _ e r => .dic h e (DaL.dr r)
theorem DaL.dr {K : PySem.W.Frag} {p : List Addr} {H : Hp} : ∀ {vs : List V} {ds : List PyData}, DaL p H vs ds → DrAll K H vs ds
  | _, _, .nil => .nil
  | _, _, .cons h r => .cons (Da.dr h) (DaL.dr r)
end
/-- what holds all data but the pen -/
structure KD (p : List Addr) (H H' : Hp) : Prop where
  l : ∀ a xs, H a = some (.lst xs) → a ∉ p → H' a = some (.lst xs)
  t : ∀ a xs, Tup H a xs → Tup H' a xs
  d : ∀ a kvs, H a = some (.dK kvs) → a ∉ p → H' a = some (.dK kvs)
theorem KD.refl (p : List Addr) (H : Hp) : KD p H H := ⟨fun _ _ h _ => h, fun _ _ h => h, fun _ _ h _ => h⟩
theorem KD.trans {p : List Addr} {H H1 H2 : Hp} (a : KD p H H1) (b : KD p H1 H2) : KD p H H2 := ⟨fun c xs h n => b.l c xs (a.l c xs h n) n, fun c xs h => b.t c xs (a.t c xs h), fun c xs h n => b.d c xs (a.d c xs h n) n⟩
theorem KD.of0 {p : List Addr} {H H' : Hp} (k : Keep [] H H') : KD p H H' := ⟨fun _ _ h _ => k _ _ nin0 h, fun _ _ h => h.keep k nin0, fun _ _ h _ => k _ _ nin0 h⟩
theorem KD.ofT {p : List Addr} {L : List Addr} {H H' : Hp} (ht : Tabs L H) (k : KT L H H') : KD p H H' := ⟨fun _ _ h _ => k.k _ _ (ht.lst h) h, fun a xs h => h.keep k.k (ht.noTup a xs h), fun _ _ h _ => k.k _ _ (ht.dK h) h⟩
theorem KD.ofD {p : List Addr} {q c : Addr} {H H' : Hp} {j : Nat} (hq : q ∈ p) (hp : PenOk H q c j) (k : Keep [q] H H') : KD p H H' :=
  ⟨fun _ _ h n => k _ _ (nin1 fun z => n (z ▸ hq)) h, fun a xs h => h.keep k (hp.noTup a xs h), fun _ _ h n => k _ _ (nin1 fun z => n (z ▸ hq)) h⟩
/-- a list that no data holds is changed -/
theorem KD.ofA {p : List Addr} {f : Addr} {H H' : Hp} {fx : List V} (hq : f ∈ p) (hf : H f = some (.lst fx)) (k : Keep [f] H H') : KD p H H' := by
  refine ⟨fun _ _ h n => k _ _ (nin1 fun z => n (z ▸ hq)) h, fun a xs h => h.keep k (nin1 fun z => ?_), fun a kvs h n => k _ _ (nin1 fun z => n (z ▸ hq)) h⟩
  obtain ⟨ob, e2, _⟩ := h
  rw [z, hf] at e2
  cases e2
mutual
theorem Da.keep {p : List Addr} {H H' : Hp} (k : KD p H H') : ∀ {v : V} {d : PyData}, Da p H v d → Da p H' v d
  | _, _, .non => .non
  | _, _, .bl b => .bl b
  | _, _, .int i => .int i
  | _, _, .str z => .str z
  | _, _, .lst h n r => .lst (k.l _ _ h n) n (DaL.keep k r)
  | _, _, .tup h r => .tup (k.t _ _ h) (DaL.keep k r)
  | _, _, .dic h n e r => .dic (k.d _ _ h n) n e (DaL.keep k r)
theorem DaL.keep {p : List Addr} {H H' : Hp} (k : KD p H H') : ∀ {vs : List V} {ds : List PyData}, DaL p H vs ds → DaL p H' vs ds
  | _, _, .nil => .nil
  | _, _, .cons h r => .cons (Da.keep k h) (DaL.keep k r)
end
theorem DaL.len {p : List Addr} {H : Hp} : ∀ {vs : List V} {ds : List PyData}, DaL p H vs ds → vs.length = ds.length
  | _, _, .nil => rfl
  | _, _, .cons _ r => congrArg (· + 1) r.len
theorem DaL.ei {p : List Addr} {H : Hp} : ∀ {vs : List V} {ds : List PyData}, DaL p H vs ds → EI (fun v d => Da p H v d) vs ds
  | _, _, .nil => .nil
  | _, _, .cons h r => .cons h r.ei
theorem DaL.of {p : List Addr} {H : Hp} : ∀ {vs : List V} {ds : List PyData}, EI (fun v d => Da p H v d) vs ds → DaL p H vs ds
  | _, _, .nil => .nil
  | _, _, .cons h r => .cons h (DaL.of r)
theorem DaL.app {p : List Addr} {H : Hp} : ∀ {vs us : List V} {ds es : List PyData}, DaL p H vs ds → DaL p H us es → DaL p H (vs ++ us) (ds ++ es)
  | _, _, _, _, .nil, r => r
  | _, _, _, _, .cons h q, r => .cons h (q.app r)
theorem DaL.take {p : List Addr} {H : Hp} : ∀ {vs : List V} {ds : List PyData} (n : Nat), DaL p H vs ds → DaL p H (vs.take n) (ds.take n)
  | _, _, 0, _ => .nil
  | _, _, n + 1, .nil => .nil
  | _, _, n + 1, .cons h r => .cons h (r.take n)
theorem DaL.drop {p : List Addr} {H : Hp} : ∀ {vs : List V} {ds : List PyData} (n : Nat), DaL p H vs ds → DaL p H (vs.drop n) (ds.drop n)
  | _, _, 0, h => h
  | _, _, n + 1, .nil => .nil
  | _, _, n + 1, .cons h r => r.drop n
theorem DaL.get {p : List Addr} {H : Hp} : ∀ {vs : List V} {ds : List PyData} {i : Nat} {d : PyData}, DaL p H vs ds → ds[i]? = some d → ∃ v, vs[i]? = some v ∧ Da p H v d
  | _, _, i, d, .nil, h => by simp at h
  | _, _, 0, d, .cons h r, e => ⟨_, rfl, by
    have e' := Option.some.inj e
    rw [← e']; exact h⟩
  | _, _, i + 1, d, .cons h r, e => r.get e
theorem Da.any {p : List Addr} {H : Hp} {v : V} {d : PyData} (h : Da p H v d) : AnyV H v := by
  cases h with
  | non => exact .inl rfl
  | bl b => exact .inl rfl
  | int i => exact .inl rfl
  | str z => exact .inl rfl
  | lst e _ _ => exact .inr (.inl ⟨_, _, rfl, e⟩)
  | tup e _ => exact .inr (.inr (.inl ⟨_, _, rfl, e⟩))
  | dic e _ _ _ => exact .inr (.inr (.inr ⟨_, _, rfl, e⟩))
theorem kit_list_tuple' : kitB "list" "tuple" = some false := by decide +kernel
theorem kit_dict_tuple' : kitB "dict" "tuple" = some false := by decide +kernel
theorem kit_int_tuple' : kitB "int" "tuple" = some false := by decide +kernel
theorem kit_bool_tuple' : kitB "bool" "tuple" = some false := by decide +kernel
theorem kit_str_tuple' : kitB "str" "tuple" = some false := by decide +kernel
theorem kit_none_tuple' : kitB "NoneType" "tuple" = some false := by decide +kernel
theorem kit_list_int' : kitB "list" "int" = some false := by decide +kernel
theorem kit_dict_int' : kitB "dict" "int" = some false := by decide +kernel
theorem kit_tuple_int' : kitB "tuple" "int" = some false := by decide +kernel
def isTP : PyData → Bool
  | .tuple _ => true
  | _ => false
def isSP : PyData → Bool
  | .str _ => true
  | _ => false
def isIP : PyData → Bool
  | .int _ => true
  | .bool _ => true
  | _ => false
theorem g_isT {K : PySem.W.Frag} {p : List Addr} {H : Hp} {v : V} {d : PyData} {Q : VK} (h : Da p H v d) (q : Q (.bl (isTP d)) H) : rIsi K [v, .ty "tuple"] H Q := by
  cases h with
  | non => exact g_isi (.base .non) kit_none_tuple' q
  | bl b => exact g_isi (.base (.bl b)) kit_bool_tuple' q
  | int i => exact g_isi (.base (.int i)) kit_int_tuple' q
  | str z => exact g_isi (.base (.str z)) kit_str_tuple' q
  | lst e _ _ => exact g_isi (.base (.lst e)) kit_list_tuple' q
  | tup e _ => exact g_isi (ty_tup e) (by decide +kernel : kitB "tuple" "tuple" = some true) q
  | dic e _ _ _ => exact g_isi (.base (.dK e)) kit_dict_tuple' q
theorem g_isS {K : PySem.W.Frag} {p : List Addr} {H : Hp} {v : V} {d : PyData} {Q : VK} (h : Da p H v d) (q : Q (.bl (isSP d)) H) : rIsi K [v, .ty "str"] H Q := by
  cases h with
  | non => exact g_isi (.base .non) (by decide +kernel : kitB "NoneType" "str" = some false) q
  | bl b => exact g_isi (.base (.bl b)) (by decide +kernel : kitB "bool" "str" = some false) q
  | int i => exact g_isi (.base (.int i)) (by decide +kernel : kitB "int" "str" = some false) q
  | str z => exact g_isi (.base (.str z)) (by decide +kernel : kitB "str" "str" = some true) q
  | lst e _ _ => exact g_isi (.base (.lst e)) (by decide +kernel : kitB "list" "str" = some false) q
  | tup e _ => exact g_isi (ty_tup e) (by decide +kernel : kitB "tuple" "str" = some false) q
  | dic e _ _ => exact g_isi (.base (.dK e)) (by decide +kernel : kitB "dict" "str" = some false) q
/-! ### trees that show choices, whatever is handed in -/
def txtsD : List PyData → Option (List Str)
  | [] => some []
  | .str s :: ds => (txtsD ds).map (s :: ·)
  | _ :: _ => none
def headD : PyData → Option (List Str)
  | .tuple (d :: ds) => txtsD (d :: ds).dropLast
  | _ => none
def trD : PyData → PyData
  | .tuple ds => ds.getLast?.getD .none
  | _ => .none
def argD (i : Nat) : PyData → PyData
  | .tuple ds => ds.getD i .none
  | _ => .none
def txB (w : Str) : PyData → Bool
  | .str u => decide (u = w)
  | _ => false
def nodeB (w : Str) (n : Nat) : PyData → Bool
  | .tuple ds => decide (ds.length = n) && txB w (ds.getD 0 .none)
  | _ => false
def inP (ys : List Str) : PyData → Bool
  | .str y => decide (y ∈ ys)
  | _ => false
def txD : PyData → Str
  | .str y => y
  | _ => ""
def brsD : PyData → Option (List PyData)
  | .tuple bs => some bs
  | _ => none
section
variable {α : Type} (enc : α → List Str) (lk : List α → List Str) (op : List α → Str → List α) (fin : List α → Bool) (many : Nat)
def pickD (os : List α) (b : PyData) : Option α := os.find? fun o => decide (headD b = some (enc o))
def justB (bs : List PyData) (os : List α) : Bool := bs.all (fun b => (pickD enc os b).isSome) && decide (bs.length = os.length) && os.all fun o => bs.any fun b => decide (headD b = some (enc o))
def goB (os : List α) (f : PyData → α → Bool) (b : PyData) : Bool := match pickD enc os b with
  | some o => f b o
  | none => false
def allB (os : List α) (f : PyData → α → Bool) (d : PyData) : Bool := match brsD d with
  | some bs => justB enc bs os && bs.all (goB enc os f)
  | none => false
def brOk (os : List α) (d : PyData) : Bool := match brsD d with
  | some bs => justB enc bs os
  | none => false
def showG : Nat → PyData → List α → Bool
  | 0, _, _ => false
  | m + 1, d, cs =>
    if nodeB "full" 1 d = true then decide (cs.length = many) && decide (lk cs = []) && fin cs
    else if nodeB "bare" 2 d = true then inP (lk cs) (argD 1 d) && (decide (cs.length = many) || (op cs (txD (argD 1 d))).isEmpty)
    else if nodeB "by" 3 d = true then inP (lk cs) (argD 1 d) && decide (cs.length < many) && allB enc (op cs (txD (argD 1 d))) (fun b o => showG m (trD b) (cs ++ [o])) (argD 2 d)
    else false
variable {enc}
theorem pick_some {os : List α} {b : PyData} {o : α} (h : pickD enc os b = some o) : o ∈ os ∧ headD b = some (enc o) := by
  have h1 := List.mem_of_find?_eq_some h
  have h2 := List.find?_some h
  exact ⟨h1, of_decide_eq_true h2⟩
theorem pick_is {os : List α} {b : PyData} {o : α} (h1 : o ∈ os) (h2 : headD b = some (enc o)) : (pickD enc os b).isSome = true := by
  unfold pickD
  rw [List.find?_isSome]
  exact ⟨o, h1, decide_eq_true h2⟩
theorem allB_not {os : List α} {f : PyData → α → Bool} {d : PyData} (h : brOk enc os d = false) : allB enc os f d = false := by
  unfold brOk at h
  unfold allB
  cases hb : brsD d with
  | none => rfl
  | some bs =>
    rw [hb] at h
    dsimp only at h ⊢
    rw [h, Bool.false_and]
theorem allB_yes {os : List α} {f : PyData → α → Bool} {d : PyData} (h : brOk enc os d = true) : ∃ bs, d = .tuple bs ∧ justB enc bs os = true ∧ allB enc os f d = bs.all (goB enc os f) := by
  unfold brOk at h
  cases d with
  | tuple bs =>
    have h' : justB enc bs os = true := h
    refine ⟨bs, rfl, h', ?_⟩
    show (justB enc bs os && _) = _
    rw [h', Bool.true_and]
  | _ => cases h
theorem just_pick {os : List α} {bs : List PyData} (h : justB enc bs os = true) : ∀ b ∈ bs, ∃ o, pickD enc os b = some o := fun b hb => by
  unfold justB at h
  rw [Bool.and_eq_true, Bool.and_eq_true] at h
  exact Option.isSome_iff_exists.mp (List.all_eq_true.mp h.1.1 b hb)
theorem heads_all : ∀ (os : List α) (bs : List PyData), os.Nodup → (∀ a b, enc a = enc b → a = b) → bs.length = os.length → (∀ o ∈ os, ∃ b ∈ bs, headD b = some (enc o)) → ∀ b ∈ bs, ∃ o ∈ os, headD b = some (enc o)
  | [], bs, _, _, hl, _, b, hb => by
    rw [List.length_eq_zero_iff.mp hl] at hb
    cases hb
  | o :: os, bs, nd, inj, hl, h, b, hb => by
    obtain ⟨b0, hb0, e0⟩ := h o List.mem_cons_self
    obtain ⟨l1, l2, rfl⟩ := List.append_of_mem hb0
    obtain ⟨no, nd'⟩ := List.nodup_cons.mp nd
    have hl' : (l1 ++ l2).length = os.length := by
      simp only [List.length_append, List.length_cons] at hl ⊢
      omega
    have h' : ∀ o' ∈ os, ∃ b ∈ l1 ++ l2, headD b = some (enc o') := fun o' ho' => by
      obtain ⟨b', hb', e'⟩ := h o' (List.mem_cons_of_mem _ ho')
      refine ⟨b', ?_, e'⟩
      rcases List.mem_append.mp hb' with hb' | hb'
      · exact List.mem_append_left _ hb'
      · rcases List.mem_cons.mp hb' with rfl | hb'
        · exfalso
          rw [e0] at e'
          have := inj _ _ (Option.some.inj e')
          exact no (this ▸ ho')
        · exact List.mem_append_right _ hb'
    rcases List.mem_append.mp hb with hb | hb
    · obtain ⟨o', h1, h2⟩ := heads_all os (l1 ++ l2) nd' inj hl' h' b (List.mem_append_left _ hb)
      exact ⟨o', List.mem_cons_of_mem _ h1, h2⟩
    · rcases List.mem_cons.mp hb with rfl | hb
      · exact ⟨o, List.mem_cons_self, e0⟩
      · obtain ⟨o', h1, h2⟩ := heads_all os (l1 ++ l2) nd' inj hl' h' b (List.mem_append_right _ hb)
        exact ⟨o', List.mem_cons_of_mem _ h1, h2⟩
/-- as many as the options, and each option among the heads: just these -/
theorem just_iff {os : List α} {bs : List PyData} (nd : os.Nodup) (inj : ∀ a b, enc a = enc b → a = b) : justB enc bs os = (decide (bs.length = os.length) && os.all fun o => bs.any fun b => decide (headD b = some (enc o))) := by
  unfold justB
  by_cases h1 : bs.length = os.length
  · by_cases h2 : (os.all fun o => bs.any fun b => decide (headD b = some (enc o))) = true
    · have h3 : bs.all (fun b => (pickD enc os b).isSome) = true := by
        refine List.all_eq_true.mpr fun b hb => ?_
        have h2' : ∀ o ∈ os, ∃ b ∈ bs, headD b = some (enc o) := fun o ho => by
          have := List.all_eq_true.mp h2 o ho
          obtain ⟨b, hb, e⟩ := List.any_eq_true.mp this
          exact ⟨b, hb, of_decide_eq_true e⟩
        obtain ⟨o, ho, e⟩ := heads_all os bs nd inj h1 h2' b hb
        exact pick_is ho e
      rw [h3, Bool.true_and]
    · rw [Bool.not_eq_true] at h2
      rw [h2, Bool.and_false, Bool.and_false]
  · rw [decide_eq_false h1, Bool.and_false, Bool.false_and]
theorem txtsD_map : ∀ {ds : List PyData} {ss : List Str}, txtsD ds = some ss → ds = ss.map PyData.str
  | [], ss, h => by
    have h' := Option.some.inj h
    rw [← h']; rfl
  | d :: ds, ss, h => by
    cases d with
    | str s =>
      have h' : (txtsD ds).map (s :: ·) = some ss := h
      obtain ⟨zs, e1, e2⟩ := Option.map_eq_some_iff.mp h'
      rw [← e2, txtsD_map e1]
      rfl
    | _ => cases h
theorem txtsD_of : ∀ ss : List Str, txtsD (ss.map PyData.str) = some ss
  | [] => rfl
  | s :: ss => by
    show (txtsD (ss.map PyData.str)).map (s :: ·) = _
    rw [txtsD_of ss]; rfl
theorem headD_tup {b : PyData} {ss : List Str} (h : headD b = some ss) : ∃ t, b = .tuple (ss.map PyData.str ++ [t]) ∧ trD b = t := by
  cases b with
  | tuple ds =>
    cases ds with
    | nil => cases h
    | cons d ds =>
      have h' : txtsD (d :: ds).dropLast = some ss := h
      have e := txtsD_map h'
      refine ⟨(d :: ds).getLast (List.cons_ne_nil _ _), ?_, ?_⟩
      · rw [← e, List.dropLast_concat_getLast]
      · show (d :: ds).getLast?.getD .none = _
        rw [List.getLast?_eq_some_getLast (List.cons_ne_nil _ _)]
        rfl
  | _ => cases h
theorem headD_of (ss : List Str) (t : PyData) : headD (.tuple (ss.map PyData.str ++ [t])) = some ss ∧ trD (.tuple (ss.map PyData.str ++ [t])) = t := by
  constructor
  · cases ss with
    | nil => rfl
    | cons s ss =>
      show txtsD (PyData.str s :: (ss.map PyData.str ++ [t])).dropLast = _
      rw [← List.cons_append, List.dropLast_concat]
      exact txtsD_of (s :: ss)
  · show (ss.map PyData.str ++ [t]).getLast?.getD .none = t
    rw [List.getLast?_concat]
    rfl
end


/-! ### data of any kind, and the tests that trees are put to -/
theorem da_txt {S : List Addr} {H : Hp} {v : V} {d : PyData} (h : Da S H v d) (w : Str) : isTxt v w = txB w d := by cases h <;> rfl
theorem da_inX {S : List Addr} {H : Hp} {v : V} {d : PyData} (h : Da S H v d) (ys : List Str) : inX v ys = inP ys d := by cases h <;> rfl
theorem da_tup {S : List Addr} {H : Hp} {v : V} {ds : List PyData} (h : Da S H v (.tuple ds)) : ∃ a xs, v = .ref a ∧ Tup H a xs ∧ DaL S H xs ds := by
  cases h with
  | tup h1 h2 => exact ⟨_, _, rfl, h1, h2⟩
theorem da_str {S : List Addr} {H : Hp} {v : V} {z : Str} (h : Da S H v (.str z)) : v = .str z := by
  cases h; rfl
theorem tp_is {d : PyData} (h : isTP d = true) : ∃ ds, d = .tuple ds := by
  cases d <;> first | exact ⟨_, rfl⟩ | cases h
theorem dal_getD {S : List Addr} {H : Hp} {vs : List V} {ds : List PyData} (h : DaL S H vs ds) {i : Nat} (hi : i < ds.length) : ∃ v, vs[i]? = some v ∧ Da S H v (ds.getD i .none) := by
  have e : ds[i]? = some (ds.getD i .none) := by rw [List.getD_eq_getElem?_getD, List.getElem?_eq_getElem hi]; rfl
  exact h.get e
def spNodeX : Sp := fun vs H Q _ => ∃ (S : List Addr) (v : V) (d : PyData) (w : Str) (n : Nat), vs = [v, .str w, .int (n : Nat)] ∧ 1 ≤ n ∧ Da S H v d ∧ Q (.bl (nodeB w n d)) H
theorem node_not {w : Str} {n : Nat} {d : PyData} (h : isTP d = false) : nodeB w n d = false := by
  cases d <;> first | rfl | cases h
theorem dec_len {xs : List V} {ds : List PyData} (l : xs.length = ds.length) (n : Nat) : decide (V.int (xs.length : Nat) = V.int (n : Nat)) = decide (ds.length = n) := by
  rw [decide_eq_decide, l]
  constructor
  · intro h; injection h with h; omega
  · intro h; rw [h]
theorem rd_nodeX (K : PySem.W.Frag) : ∀ vs H Q E, spNodeX vs H Q E → run (t__is_node K) (L2.start N__is_node vs) H Q := by
  rintro _ H Q _ ⟨S, v, d, w, n, rfl, hn, hd, q⟩
  show run (t__is_node K) [some v, some (.str w), some (.int (n : Nat))] H Q
  unfold t__is_node
  walk_at "sx"
  refine g_isT hd ⟨_, rfl, ?_⟩
  cases ht : isTP d with
  | false =>
    rw [node_not ht] at q
    rw [if_neg (by decide)]
    exact q
  | true =>
    obtain ⟨ds, rfl⟩ := tp_is ht
    obtain ⟨a, xs, rfl, h1, h2⟩ := da_tup hd
    have hl := h2.len
    rw [if_pos rfl]
    refine g_lenT h1 (g_eq rfl ⟨_, rfl, ?_⟩)
    rw [dec_len hl]
    by_cases hlen : ds.length = n
    · rw [decide_eq_true hlen, if_pos rfl]
      obtain ⟨x, hx, hdx⟩ := dal_getD h2 (i := 0) (by omega)
      refine g_ixT h1 (at_lit 0 rfl hx) (g_eqX hdx.any ?_)
      have e : nodeB w n (.tuple ds) = isTxt x w := by
        rw [da_txt hdx w]
        show (decide (ds.length = n) && _) = _
        rw [decide_eq_true hlen, Bool.true_and]
      rw [← e]
      exact q
    · have e : nodeB w n (.tuple ds) = false := by
        show (decide (ds.length = n) && _) = _
        rw [decide_eq_false hlen, Bool.false_and]
      rw [decide_eq_false hlen, if_neg (by decide)]
      rw [e] at q
      exact q
/-! ### branches -/
def OpG {α : Type} (enc : α → List Str) (H : Hp) (x : V) (o : α) : Prop := ∃ p, x = .ref p ∧ Tup H p ((enc o).map V.str)
theorem OpG.keepN {α : Type} {enc : α → List Str} {S : List Addr} {H H' : Hp} {x : V} {o : α} (h : OpG enc H x o) (k : Keep S H H') (n : NoTup S H) : OpG enc H' x o := let ⟨p, e, t⟩ := h; ⟨p, e, t.keep k (n _ _ t)⟩
def BrV (S : List Addr) (H : Hp) (x : V) (r : List V × PyData) : Prop := ∃ c ds, x = .ref c ∧ Tup H c r.1 ∧ r.2 = .tuple ds ∧ DaL S H r.1 ds
theorem BrV.kd {S : List Addr} {H H' : Hp} {x : V} {r : List V × PyData} (h : BrV S H x r) (k : KD S H H') : BrV S H' x r := let ⟨c, ds, e, t, e2, l⟩ := h; ⟨c, ds, e, k.t _ _ t, e2, DaL.keep k l⟩
theorem brs_of {S : List Addr} {H : Hp} : ∀ {xs : List V} {ds : List PyData}, DaL S H xs ds → ds.all isTP = true → ∃ rs : List (List V × PyData), EI (BrV S H) xs rs ∧ rs.map (·.2) = ds
  | _, _, .nil, _ => ⟨[], .nil, rfl⟩
  | _, _, .cons (d := d) h r, ha => by
    rw [List.all_cons, Bool.and_eq_true] at ha
    obtain ⟨ds', rfl⟩ := tp_is ha.1
    obtain ⟨a, ys, rfl, h1, h2⟩ := da_tup h
    obtain ⟨rs, e1, e2⟩ := brs_of r ha.2
    exact ⟨(ys, .tuple ds') :: rs, .cons ⟨a, ds', rfl, h1, rfl, h2⟩ e1, by rw [List.map_cons, e2]⟩
theorem cut_last (xs : List V) : cutV xs none (some (-1)) = xs.dropLast := by
  unfold cutV
  have e1 : HT.sIx xs.length 0 none = 0 := rfl
  have e2 : HT.sIx xs.length xs.length (some (-1)) = xs.length - 1 := by
    show (if (-1 : Int) < 0 then ((-1 : Int) + (xs.length : Int)).toNat else min (-1 : Int).toNat xs.length) = _
    rw [if_pos (by decide)]
    omega
  rw [e1, e2, List.drop_zero, Nat.sub_zero, List.dropLast_eq_take]
theorem dal_last {S : List Addr} {H : Hp} : ∀ {xs : List V} {ds : List PyData}, DaL S H xs ds → DaL S H xs.dropLast ds.dropLast
  | _, _, .nil => .nil
  | _, _, .cons h .nil => .nil
  | _, _, .cons h (.cons h2 r) => .cons h (dal_last (.cons h2 r))
theorem isTxts_da {S : List Addr} {H : Hp} : ∀ {xs : List V} {ds : List PyData} (ss : List Str), DaL S H xs ds → isTxts xs ss = decide (txtsD ds = some ss)
  | _, _, [], .nil => rfl
  | _, _, s :: ss, .nil => by
    show false = decide ((some [] : Option (List Str)) = some (s :: ss))
    rw [decide_eq_false (by simp)]
  | _, _, [], .cons (d := d) (ds := ds) h r => by
    show false = decide (txtsD (d :: ds) = some [])
    symm
    refine decide_eq_false fun e => ?_
    have := txtsD_map e
    cases this
  | _, _, s :: ss, .cons (v := x) (vs := xs) (d := d) (ds := ds) h r => by
    show (isTxt x s && isTxts xs ss) = _
    rw [isTxts_da ss r, da_txt h]
    cases d with
    | str u =>
      show (decide (u = s) && decide (txtsD ds = some ss)) = decide ((txtsD ds).map (u :: ·) = some (s :: ss))
      rw [Bool.eq_iff_iff, Bool.and_eq_true, decide_eq_true_eq, decide_eq_true_eq, decide_eq_true_eq]
      constructor
      · rintro ⟨rfl, e⟩; rw [e]; rfl
      · intro e
        obtain ⟨zs, e1, e2⟩ := Option.map_eq_some_iff.mp e
        injection e2 with e3 e4
        exact ⟨e3, by rw [e1, e4]⟩
    | _ =>
      show (false && _) = decide ((none : Option (List Str)) = some (s :: ss))
      rw [Bool.false_and, decide_eq_false (by simp)]
theorem head_is {S : List Addr} {H : Hp} {xs : List V} {ds : List PyData} {ss : List Str} (h : DaL S H xs ds) (ne : ss ≠ []) : isTxts xs.dropLast ss = decide (headD (.tuple ds) = some ss) := by
  rw [isTxts_da ss (dal_last h)]
  cases ds with
  | nil =>
    show decide ((some [] : Option (List Str)) = some ss) = decide ((none : Option (List Str)) = some ss)
    rw [decide_eq_false (fun e => ne (Option.some.inj e).symm), decide_eq_false (by simp)]
  | cons d ds => rfl
/-- the branches' promise: just the options -/
def spBrs {α : Type} (enc : α → List Str) (L : List Addr) : Sp := fun vs H Q _ => ∃ (S : List Addr) (v : V) (d : PyData) (ol : Addr) (ov : List V) (os : List α), vs = [v, .ref ol] ∧ Da S H v d ∧ H ol = some (.lst ov) ∧ EI (OpG enc H) ov os ∧ os.Nodup ∧ os.length ≤ 100 ∧ Tabs L H ∧
  ∀ H', KT L H H' → Q (.bl (brOk enc os d)) H'
theorem any_heads {S : List Addr} {H : Hp} {ss : List Str} (ne : ss ≠ []) : ∀ {xs : List V} {rs : List (List V × PyData)}, EI (BrV S H) xs rs → ((rs.map fun r => r.1.dropLast).any fun xs => isTxts xs ss) = (rs.map (·.2)).any fun b => decide (headD b = some ss)
  | _, _, .nil => rfl
  | _, _, .cons (b := r) ⟨c, ds, e, t, e2, l⟩ es => by
    rw [List.map_cons, List.map_cons, List.any_cons, List.any_cons, any_heads ne es, head_is l ne, e2]
theorem rd_brs (K : PySem.W.Frag) {α : Type} {enc : α → List Str} (inj : ∀ a b, enc a = enc b → a = b) (ne : ∀ o, enc o ≠ []) {L : List Addr} {P : Addr} (hP : P ∈ L) : ∀ vs H Q E, spBrs enc L vs H Q E → run (t__are_branches K P) (L2.start N__are_branches vs) H Q := by
  rintro _ H Q _ ⟨S, v, d, ol, ov, os, rfl, hd, ho, eo, nd, l100, ht, q⟩
  show run (t__are_branches K P) [some v, some (.ref ol), none, none, none] H Q
  have lo := eo.length
  unfold t__are_branches
  walk_at "sx"
  refine g_isT hd ⟨_, rfl, ?_⟩
  cases htp : isTP d with
  | false =>
    have e : brOk enc os d = false := by cases d <;> first | rfl | cases htp
    rw [e] at q
    rw [if_pos (by rfl)]
    exact q H (KT.refl _ _)
  | true =>
    obtain ⟨ds, rfl⟩ := tp_is htp
    have e : brOk enc os (.tuple ds) = justB enc ds os := rfl
    rw [e, just_iff nd inj] at q
    obtain ⟨a, xs, rfl, h1, h2⟩ := da_tup hd
    have hl := h2.len
    rw [if_neg (by decide)]
    refine g_lenT h1 (g_lenL ho (g_ne rfl ⟨_, rfl, ?_⟩))
    rw [lo, dec_len hl]
    by_cases hlen : ds.length = os.length
    · rw [decide_eq_true hlen, if_neg (by decide)]
      rw [decide_eq_true hlen, Bool.true_and] at q
      unfold t__are_branches_r2
      walk_at "sx"
      refine e_genU.mpr ?_
      walk_at "sx"
      refine g_GE (L := L) (RR := fun H x d => Da S H x d) isTP ht hP (.inr h1.sq) h2.ei (fun H' x r hx k => hx.keep (KD.ofT ht k)) ?_ fun H1 k1 => ?_
      · intro i x r H1 R R0 hi k1 t1 hx hR
        walk_at "sx"
        exact g_isT hx (hR _ (KT.refl _ _))
      · have t1 := k1.t ht
        have kd1 := KD.ofT (p := S) ht k1
        refine ⟨_, rfl, ?_⟩
        show (if (!(ds.all isTP)) = true then _ else _)
        cases hall : ds.all isTP with
        | false =>
          rw [if_pos (by rfl)]
          have e2 : (os.all fun o => ds.any fun b => decide (headD b = some (enc o))) = false ∨ True := .inr trivial
          by_cases h3 : (os.all fun o => ds.any fun b => decide (headD b = some (enc o))) = true
          · exfalso
            have h3' : ∀ o ∈ os, ∃ b ∈ ds, headD b = some (enc o) := fun o ho' => by
              obtain ⟨b, hb, e⟩ := List.any_eq_true.mp (List.all_eq_true.mp h3 o ho')
              exact ⟨b, hb, of_decide_eq_true e⟩
            have : ds.all isTP = true := List.all_eq_true.mpr fun b hb => by
              obtain ⟨o, _, e⟩ := heads_all os ds nd inj hlen h3' b hb
              obtain ⟨t, e', _⟩ := headD_tup e
              rw [e']; rfl
            rw [hall] at this
            cases this
          · rw [Bool.not_eq_true] at h3
            rw [h3] at q
            exact q H1 k1
        | true =>
          rw [if_neg (by decide)]
          obtain ⟨rs, er, em⟩ := brs_of (DaL.keep kd1 h2) hall
          have lrs : rs.length = os.length := by rw [← hlen, ← em, List.length_map]
          have h11 := kd1.t _ _ h1
          unfold t__are_branches_r1
          walk_at "sx"
          refine g_CE (RR := BrV S) (.inr h11) er (fun H H' x r h k => h.kd (KD.of0 k)) (fun j H' acc => EI (fun v (r : List V × PyData) => ∃ p, v = .ref p ∧ Tup H' p r.1.dropLast) acc (rs.take j)) (fun _ _ _ _ => .nil) ?_ ?_
          · rintro D j x r H2 acc R R0 nD hj k2 eD ⟨c, ds', rfl, tc, e2, lc⟩ hacc hR _
            walk_at "sx"
            refine g_slT tc fun s H3 k3 t3 => ?_
            have ec : cutV r.1 none (some (-1)) = r.1.dropLast := cut_last _
            rw [ec] at t3
            refine hR _ _ k3 (by rw [hacc.length, List.length_take]; exact len_lt (by omega)) fun H4 k4 => ?_
            rw [List.take_succ, hj]
            have eD3 := k3 _ _ nin0 eD
            exact ei_snoc (R := fun v (r : List V × PyData) => ∃ p, v = .ref p ∧ Tup H4 p r.1.dropLast) ⟨s, rfl, t3.keep k4 (noTup1 eD3 _ _ t3)⟩ (hacc.mono fun _ _ ⟨p, e, t⟩ => ⟨p, e, (t.keep k3 nin0).keep k4 (noTup1 eD3 _ _ (t.keep k3 nin0))⟩)
          · rintro hl' H2 hv n2 k2 eh fh
            rw [List.take_length] at fh
            have t2 := t1.keep0 k2
            have kt2 : KT L H H2 := k1.trans (KT.of0 k2)
            have ho2 := kt2.k _ _ (ht.lst ho) ho
            have eo2 : EI (OpG enc H2) ov os := eo.mono fun _ _ h => h.keepN kt2.k ht.noTup
            have er2 : EI (BrV S H2) xs rs := er.mono fun _ _ h => h.kd (KD.of0 k2)
            walk_at "sx"
            refine e_genU.mpr ?_
            walk_at "sx"
            refine g_GE (L := L) (RR := OpG enc) (fun o => (rs.map fun r => r.1.dropLast).any fun xs => isTxts xs (enc o)) t2 hP (.inl (lst_sq ho2)) eo2 (fun H' x r hx k => hx.keepN k.k t2.noTup) ?_ fun H3 k3 => ?_
            · intro i x o H3 R R0 hi k3 t3 ⟨p, ex, tp⟩ hR
              subst ex
              walk_at "sx"
              have fh3 : EI (HdAt H3) hv (rs.map fun r => r.1.dropLast) := by
                have kd3 := KD.ofT (p := S) t2 k3
                have : ∀ {hv : List V} {xs : List V} {rs : List (List V × PyData)}, EI (fun v (r : List V × PyData) => ∃ p, v = .ref p ∧ Tup H2 p r.1.dropLast) hv rs → EI (BrV S H2) xs rs → EI (HdAt H3) hv (rs.map fun r => r.1.dropLast) := by
                  intro hv xs rs h
                  induction h generalizing xs with
                  | nil => intro _; exact .nil
                  | cons h t ih =>
                    intro h'
                    cases h' with
                    | cons g g' =>
                      obtain ⟨p, e, tp⟩ := h
                      obtain ⟨c, ds', _, _, _, l⟩ := g
                      refine .cons ⟨p, e, kd3.t _ _ tp, fun x hx => ?_⟩ (ih g')
                      have l3 := dal_last (DaL.keep kd3 l)
                      have : ∀ {xs : List V} {ds : List PyData}, DaL S H3 xs ds → ∀ x ∈ xs, AnyV H3 x := by
                        intro xs ds h
                        induction h using DaL.rec (motive_1 := fun _ _ _ => True) with
                        | nil => intro x hx; cases hx
                        | cons h r _ ih =>
                          intro x hx
                          rcases List.mem_cons.mp hx with rfl | hx
                          · exact h.any
                          · exact ih x hx
                        | _ => trivial
                      exact this l3 x hx
                exact this fh er2
              exact g_inH tp (k3.k _ _ (t2.lst eh) eh) fh3 (hR _ (KT.refl _ _))
            · have e3 : aaB false (fun o => (rs.map fun r => r.1.dropLast).any fun xs => isTxts xs (enc o)) os = os.all fun o => ds.any fun b => decide (headD b = some (enc o)) := by
                show os.all _ = _
                congr 1
                funext o
                rw [any_heads (ne o) er2, em]
              rw [e3]
              exact q H3 (kt2.trans k3)
    · rw [decide_eq_false hlen, if_pos (by rfl)]
      rw [decide_eq_false hlen, Bool.false_and] at q
      exact q H (KT.refl _ _)


/-! ### the program's checker of trees of posts -/
def encS (s : Str) : List Str := [s]
theorem encS_inj : ∀ a b, encS a = encS b → a = b := fun a b h => by injection h
theorem encS_ne : ∀ o, encS o ≠ [] := fun o h => nomatch h
theorem inP_str {ys : List Str} {d : PyData} (h : inP ys d = true) : ∃ y, d = .str y ∧ y ∈ ys := by
  cases d with
  | str y => exact ⟨y, rfl, of_decide_eq_true h⟩
  | _ => cases h
def bareP (T : Tn) (D : Tab) (many : Nat) (ps : List Str) (d : PyData) : Bool := inP (lackOf T D ps) d && (decide (ps.length = many) || (optsOf T D (txD d)).isEmpty)
def fullP (T : Tn) (D : Tab) (many : Nat) (is : List Int) (ps : List Str) : Bool := decide (ps.length = many) && decide (lackOf T D ps = []) && !ltI (ordOf T ps) is
def spBareX (CN CS : Addr) : Sp := fun vs H Q _ => ∃ (S : List Addr) (ch cl : Addr) (many : Nat) (T : Tn) (D : Tab) (cv : List V) (ps : List Str) (x : V) (d : PyData), vs = [.ref ch, .int (many : Nat), .ref cl, x] ∧ StdAt CN CS H ch T D ∧ TwOk T ∧ H cl = some (.lst cv) ∧ EI (OpAt H) cv ps ∧ (∀ z ∈ ps, z ∈ T.stands) ∧ ps.length ≤ 20 ∧ Da S H x d ∧
  ∀ H', Keep [] H H' → Q (.bl (bareP T D many ps d)) H'
theorem dec_lenN (n m : Nat) : decide (V.int (n : Nat) = V.int (m : Nat)) = decide (n = m) := by
  rw [decide_eq_decide]
  constructor
  · intro h; injection h with h; omega
  · intro h; rw [h]
theorem rd_bareX (K : PySem.W.Frag) {CN CS : Addr} : ∀ vs H Q E, spBareX CN CS vs H Q E → run (t__is_bare K (spStdLack CN CS) (spOptions CN CS) CS) (L2.start N__is_bare vs) H Q := by
  rintro _ H Q _ ⟨S, ch, cl, many, T, D, cv, ps, x, d, rfl, ob, ok, hc, ec, hps, l20, hd, q⟩
  show run (t__is_bare K (spStdLack CN CS) (spOptions CN CS) CS) [some (.ref ch), some (.int (many : Nat)), some (.ref cl), some x] H Q
  unfold t__is_bare
  walk_at "sx"
  unfold tMth
  walk_at "sx"
  obtain ⟨dx, fs, i, as, a1, a2, a3, a4, a5, a6⟩ := ob.ob
  refine ⟨ch, dx, fs, rfl, a1, a4 _ (by decide +kernel) (by decide +kernel), ch, cl, T, D, cv, ps, rfl, ob, ok.p10, hc, ec, fun z hz => ok.sp z (hps z hz), l20, fun kl H1 n1 k1 e1 => ?_⟩
  have hd1 := hd.keep (KD.of0 k1)
  refine g_ninXL e1 hd1.any ⟨_, rfl, ?_⟩
  rw [da_inX hd1]
  cases hin : inP (lackOf T D ps) d with
  | false =>
    rw [if_pos (by rfl)]
    have e : bareP T D many ps d = false := by unfold bareP; rw [hin, Bool.false_and]
    rw [e] at q
    exact q H1 k1
  | true =>
    obtain ⟨y, rfl, hy⟩ := inP_str hin
    obtain rfl := da_str hd
    have e : bareP T D many ps (.str y) = (decide (ps.length = many) || (optsOf T D y).isEmpty) := by unfold bareP; rw [hin, Bool.true_and]; rfl
    rw [e] at q
    rw [if_neg (by decide)]
    unfold t__is_bare_r1
    walk_at "sx"
    refine g_lenL (k1 _ _ nin0 hc) (g_eq rfl ⟨_, rfl, ?_⟩)
    rw [dec_lenN, ec.length]
    by_cases hl : ps.length = many
    · rw [decide_eq_true hl, if_pos rfl]
      rw [decide_eq_true hl, Bool.true_or] at q
      exact q H1 k1
    · rw [decide_eq_false hl, if_neg (by decide)]
      rw [decide_eq_false hl, Bool.false_or] at q
      unfold tMth
      walk_at "sx"
      have ob1 := ob.keep k1
      refine ⟨ch, dx, fs, rfl, k1 _ _ nin0 a1, a4 _ (by decide +kernel) (by decide +kernel), ch, .ref cl, y, T, D, rfl, ob1, ok.s5, ok.sp, fun ol H2 ov n2 k2 e2 f2 => ?_⟩
      have lo := f2.length
      refine ⟨!(optsOf T D y).isEmpty, g_truL e2 ?_, ?_⟩
      · cases ov with
        | nil => rw [List.length_nil] at lo; rw [List.length_eq_zero_iff.mp lo.symm]; rfl
        | cons v vs =>
          cases hopt : optsOf T D y with
          | nil => rw [hopt] at lo; cases lo
          | cons o os => rfl
      · rw [Bool.not_not]
        exact q H2 (k1.trans k2)
def spFullX (CN CS : Addr) : Sp := fun vs H Q _ => ∃ (ch cl ll : Addr) (many : Nat) (T : Tn) (D : Tab) (cv : List V) (ps : List Str) (is : List Int), vs = [.ref ch, .int (many : Nat), .ref ll, .ref cl] ∧ StdAt CN CS H ch T D ∧ TwOk T ∧ H cl = some (.lst cv) ∧ EI (OpAt H) cv ps ∧ (∀ z ∈ ps, z ∈ T.stands) ∧ ps.length ≤ 20 ∧ H ll = some (.lst (is.map V.int)) ∧
  ∀ H', Keep [] H H' → Q (.bl (fullP T D many is ps)) H'
theorem rd_fullX (K : PySem.W.Frag) {CN CS : Addr} : ∀ vs H Q E, spFullX CN CS vs H Q E → run (t__is_full K (spStdLack CN CS) (spOrdered CN CS) CS) (L2.start N__is_full vs) H Q := by
  rintro _ H Q _ ⟨ch, cl, ll, many, T, D, cv, ps, is, rfl, ob, ok, hc, ec, hps, l20, hll, q⟩
  show run (t__is_full K (spStdLack CN CS) (spOrdered CN CS) CS) [some (.ref ch), some (.int (many : Nat)), some (.ref ll), some (.ref cl)] H Q
  unfold t__is_full
  walk_at "sx"
  rw [if_neg (fun c => nomatch c)]
  refine g_lenL hc (g_ne rfl ⟨_, rfl, ?_⟩)
  rw [dec_lenN, ec.length]
  unfold fullP at q
  by_cases hl : ps.length = many
  · rw [decide_eq_true hl, if_neg (by decide)]
    rw [decide_eq_true hl, Bool.true_and] at q
    unfold tMth
    walk_at "sx"
    obtain ⟨dx, fs, i, as, a1, a2, a3, a4, a5, a6⟩ := ob.ob
    refine ⟨ch, dx, fs, rfl, a1, a4 _ (by decide +kernel) (by decide +kernel), ch, cl, T, D, cv, ps, rfl, ob, ok.p10, hc, ec, fun z hz => ok.sp z (hps z hz), l20, fun kl H1 n1 k1 e1 => ?_⟩
    cases hlk : lackOf T D ps with
    | nil =>
      rw [hlk] at e1 q
      rw [decide_eq_true rfl, Bool.true_and] at q
      refine ⟨false, g_truL e1 rfl, ?_⟩
      rw [if_neg (by decide)]
      unfold t__is_full_r1
      walk_at "sx"
      unfold tMth
      walk_at "sx"
      have ob1 := ob.keep k1
      refine ⟨ch, dx, fs, rfl, k1 _ _ nin0 a1, a4 _ (by decide +kernel) (by decide +kernel), ch, cl, T, D, cv, ps, rfl, ob1, k1 _ _ nin0 hc, ops_keep ec k1 noTup0, hps, l20, fun ol H2 n2 k2 e2 => ?_⟩
      have hll2 := (k1.trans k2) _ _ nin0 hll
      refine ⟨.list ((ordOf T ps).map .int), .list (is.map .int), .lst (lst_sq e2) (dp_ints2 _), .lst (lst_sq hll2) (dp_ints2 is), by simp [PySem.W.alike, alike_ints], (fun c => nomatch c), by simp [PyData.depth, depth_ints2], ?_⟩
      exact q H2 (k1.trans k2)
    | cons z zs =>
      rw [hlk] at e1 q
      rw [decide_eq_false (fun c => nomatch c), Bool.false_and] at q
      refine ⟨true, g_truL e1 rfl, ?_⟩
      rw [if_pos rfl]
      exact q H1 k1
  · rw [decide_eq_false hl, if_pos (by rfl)]
    rw [decide_eq_false hl, Bool.false_and, Bool.false_and] at q
    exact q H (Keep.refl _ _)


/-! ### branch by branch -/
def finP (T : Tn) (is : List Int) (ps : List Str) : Bool := !ltI (ordOf T ps) is
abbrev showP (T : Tn) (D : Tab) (many : Nat) (is : List Int) : Nat → PyData → List Str → Bool := showG encS (lackOf T D) (fun _ y => optsOf T D y) (finP T is) many
def byP (T : Tn) (D : Tab) (many : Nat) (is : List Int) (m : Nat) (ps : List Str) (dp db : PyData) : Bool := inP (lackOf T D ps) dp && decide (ps.length < many) && allB encS (optsOf T D (txD dp)) (fun b o => showP T D many is m (trD b) (ps ++ [o])) db
theorem node_not2 {w w' : Str} {n n' : Nat} {d : PyData} (h : nodeB w n d = true) (ne : w ≠ w' ∨ n ≠ n') : nodeB w' n' d = false := by
  cases d with
  | tuple ds =>
    have h' : (decide (ds.length = n) && txB w (ds.getD 0 .none)) = true := h
    show (decide (ds.length = n') && txB w' (ds.getD 0 .none)) = false
    rw [Bool.and_eq_true] at h'
    rcases ne with ne | ne
    · cases hd : ds.getD 0 .none with
      | str u =>
        rw [hd] at h'
        have e : u = w := of_decide_eq_true h'.2
        have : txB w' (.str u) = false := decide_eq_false fun c => ne (e.symm.trans c)
        rw [this, Bool.and_false]
      | _ => exact Bool.and_false _
    · have e : ds.length = n := of_decide_eq_true h'.1
      rw [decide_eq_false (fun c => ne (e.symm.trans c)), Bool.false_and]
  | _ => rfl
theorem node_tup {w : Str} {n : Nat} {d : PyData} (h : nodeB w n d = true) : ∃ ds, d = .tuple ds ∧ ds.length = n ∧ ds.getD 0 .none = .str w := by
  cases d with
  | tuple ds =>
    have h' : (decide (ds.length = n) && txB w (ds.getD 0 .none)) = true := h
    rw [Bool.and_eq_true] at h'
    refine ⟨ds, rfl, of_decide_eq_true h'.1, ?_⟩
    cases hd : ds.getD 0 .none with
    | str u =>
      rw [hd] at h'
      have e : u = w := of_decide_eq_true h'.2
      rw [e]
    | _ => rw [hd] at h'; cases h'.2
  | _ => cases h
theorem showP_eq {T : Tn} {D : Tab} {many : Nat} {is : List Int} {m : Nat} {d : PyData} {ps : List Str} : showP T D many is (m + 1) d ps = (if nodeB "full" 1 d = true then fullP T D many is ps else if nodeB "bare" 2 d = true then bareP T D many ps (argD 1 d) else if nodeB "by" 3 d = true then byP T D many is m ps (argD 1 d) (argD 2 d) else false) := rfl
theorem opts_nd {T : Tn} {D : Tab} {y : Str} (ok : TwOk T) : (optsOf T D y).Nodup := ok.nds.filter _
theorem opts_in {T : Tn} {D : Tab} {y : Str} : ∀ s ∈ optsOf T D y, s ∈ T.stands := fun s hs => (List.mem_filter.mp hs).1
theorem opts_len {T : Tn} {D : Tab} {y : Str} : (optsOf T D y).length ≤ T.stands.length := List.length_filter_le _ _
theorem SetD.kt {L : List Addr} {H H' : Hp} {d : Addr} {ns : List Str} (h : SetD H d ns) (ht : Tabs L H) (k : KT L H H') : SetD H' d ns := let ⟨kvs, a, b⟩ := h; ⟨kvs, k.k _ _ (ht.dK a) a, b⟩
theorem NearAt.kt {L : List Addr} {C : Addr} {H H' : Hp} {i : Addr} {T : Tn} {D : Tab} (h : NearAt C H i T D) (ht : Tabs L H) (k : KT L H H') : NearAt C H' i T D := by
  obtain ⟨dx, fs, g, tb, a, b, c, d, e, kvs, f1, f2⟩ := h.ob
  refine ⟨dx, fs, g, tb, k.k _ _ (ht.nin a fun _ z => nomatch z) a, b, c, d, k.k _ _ (ht.lst e) e, kvs, k.k _ _ (ht.dK f1) f1, fun z hz => ?_⟩
  obtain ⟨e', x, y⟩ := f2 z hz
  exact ⟨e', x, y.kt ht k⟩
theorem StdAt.kt {L : List Addr} {CN CS : Addr} {H H' : Hp} {m : Addr} {T : Tn} {D : Tab} (h : StdAt CN CS H m T D) (ht : Tabs L H) (k : KT L H H') : StdAt CN CS H' m T D := by
  obtain ⟨dx, fs, i, as, a, b, c, d, e, f⟩ := h.ob
  exact ⟨dx, fs, i, as, k.k _ _ (ht.nin a fun _ z => nomatch z) a, b, c, d, e.kt ht k, f.kt ht k⟩
/-- the checker's promise, m levels deep -/
def spShowsP (K : PySem.W.Frag) (L : List Addr) (CN CS : Addr) : Nat → Sp
  | 0 => fun _ _ _ _ => False
  | m + 1 => fun vs H Q _ => ∃ (S : List Addr) (ch cl ll : Addr) (many : Nat) (T : Tn) (D : Tab) (cv : List V) (ps : List Str) (is : List Int) (x : V) (d : PyData), vs = [.ref ch, .int (many : Nat), .ref ll, .ref cl, x] ∧ StdAt CN CS H ch T D ∧ TwOk T ∧ H cl = some (.lst cv) ∧ EI (OpAt H) cv ps ∧ (∀ z ∈ ps, z ∈ T.stands) ∧ ps.length ≤ 10 ∧ many ≤ 9 ∧ H ll = some (.lst (is.map V.int)) ∧ Da S H x d ∧ Tabs L H ∧ many < ps.length + (m + 1) ∧
    ∀ H', KT L H H' → Q (.bl (showP T D many is (m + 1) d ps)) H'
def spIsByP (K : PySem.W.Frag) (L : List Addr) (CN CS : Addr) (m : Nat) : Sp := fun vs H Q _ => ∃ (S : List Addr) (ch cl ll : Addr) (many : Nat) (T : Tn) (D : Tab) (cv : List V) (ps : List Str) (is : List Int) (x y : V) (dp db : PyData), vs = [.ref ch, .int (many : Nat), .ref ll, .ref cl, x, y] ∧ StdAt CN CS H ch T D ∧ TwOk T ∧ H cl = some (.lst cv) ∧ EI (OpAt H) cv ps ∧ (∀ z ∈ ps, z ∈ T.stands) ∧ ps.length ≤ 10 ∧ many ≤ 9 ∧ H ll = some (.lst (is.map V.int)) ∧ Da S H x dp ∧ Da S H y db ∧ Tabs L H ∧ many < ps.length + (m + 1) ∧
  ∀ H', KT L H H' → Q (.bl (byP T D many is m ps dp db)) H'
theorem at_last {xs : List V} {v : V} (l : xs.length ≤ 100) : atI (xs ++ [v]) (-1) = some v := by
  unfold atI ixN
  rw [List.length_append, List.length_singleton, if_neg (by decide), if_pos (by omega)]
  show (xs ++ [v])[((-1 : Int) + ((xs.length + 1 : Nat) : Int)).toNat]? = _
  rw [show ((-1 : Int) + ((xs.length + 1 : Nat) : Int)).toNat = xs.length by omega, List.getElem?_append_right (Nat.le_refl _), Nat.sub_self]
  rfl
theorem rd_isby (K : PySem.W.Frag) {L : List Addr} {P CN CS : Addr} (hP : P ∈ L) (m : Nat) : ∀ vs H Q E, spIsByP K L CN CS m vs H Q E → run (t__is_by K (spStdLack CN CS) (spBrs encS L) (spOptions CN CS) (spShowsP K L CN CS m) CS P) (L2.start N__is_by vs) H Q := by
  rintro _ H Q _ ⟨S, ch, cl, ll, many, T, D, cv, ps, is, x, y, dp, db, rfl, ob, ok, hc, ec, hps, l10, m9, hll, hdp, hdb, ht, hm, q⟩
  show run (t__is_by K (spStdLack CN CS) (spBrs encS L) (spOptions CN CS) (spShowsP K L CN CS m) CS P) [some (.ref ch), some (.int (many : Nat)), some (.ref ll), some (.ref cl), some x, some y, none] H Q
  have s5 := ok.s5
  unfold t__is_by
  walk_at "sx"
  unfold tMth
  walk_at "sx"
  obtain ⟨dx, fs, i, as, a1, a2, a3, a4, a5, a6⟩ := ob.ob
  refine ⟨ch, dx, fs, rfl, a1, a4 _ (by decide +kernel) (by decide +kernel), ch, cl, T, D, cv, ps, rfl, ob, ok.p10, hc, ec, fun z hz => ok.sp z (hps z hz), by omega, fun kl H1 n1 k1 e1 => ?_⟩
  have hd1 := hdp.keep (KD.of0 k1)
  refine g_ninXL e1 hd1.any ⟨_, rfl, ?_⟩
  rw [da_inX hd1]
  unfold byP at q
  cases hin : inP (lackOf T D ps) dp with
  | false =>
    rw [if_pos (by rfl)]
    rw [hin, Bool.false_and, Bool.false_and] at q
    exact q H1 (KT.of0 k1)
  | true =>
    obtain ⟨z, rfl, hz⟩ := inP_str hin
    obtain rfl := da_str hdp
    rw [hin, Bool.true_and] at q
    rw [if_neg (by decide)]
    refine g_lenL (k1 _ _ nin0 hc) ?_
    walk_at "sx"
    rw [ec.length]
    by_cases hlt : ps.length < many
    · rw [decide_eq_true hlt, Bool.true_and] at q
      rw [if_neg (by omega)]
      unfold t__is_by_r2
      walk_at "sx"
      unfold tMth
      walk_at "sx"
      have ob1 := ob.keep k1
      refine ⟨ch, dx, fs, rfl, k1 _ _ nin0 a1, a4 _ (by decide +kernel) (by decide +kernel), ch, .ref cl, z, T, D, rfl, ob1, ok.s5, ok.sp, fun ol H2 ov n2 k2 e2 f2 => ?_⟩
      have k12 := k1.trans k2
      have t2 := ht.keep0 k12
      have hdb2 := hdb.keep (KD.of0 k12)
      have o5 : (optsOf T D z).length ≤ 5 := Nat.le_trans opts_len s5
      refine ⟨S, y, db, ol, ov, optsOf T D z, rfl, hdb2, e2, f2, opts_nd ok, by omega, t2, fun H3 k3 => ⟨_, rfl, ?_⟩⟩
      have t3 := k3.t t2
      have kt03 : KT L H H3 := (KT.of0 k12).trans k3
      have kd03 : KD S H H3 := KD.ofT ht kt03
      cases hb : brOk encS (optsOf T D z) db with
      | false =>
        rw [if_pos (by rfl)]
        have e := allB_not (f := fun b o => showP T D many is m (trD b) (ps ++ [o])) hb
        rw [show allB encS (optsOf T D (txD (.str z))) (fun b o => showP T D many is m (trD b) (ps ++ [o])) db = _ from e] at q
        exact q H3 kt03
      | true =>
        rw [if_neg (by decide)]
        obtain ⟨bs, rfl, hj, ea⟩ := allB_yes (f := fun b o => showP T D many is m (trD b) (ps ++ [o])) hb
        have hall := just_pick hj
        have q' : ∀ H', KT L H H' → Q (.bl (bs.all (goB encS (optsOf T D z) fun b o => showP T D many is m (trD b) (ps ++ [o])))) H' := fun H' k => by
          have := q H' k
          rwa [show allB encS (optsOf T D (txD (.str z))) (fun b o => showP T D many is m (trD b) (ps ++ [o])) (.tuple bs) = _ from ea] at this
        obtain ⟨ba, bv, rfl, tb, lb⟩ := da_tup hdb
        have tb3 := kd03.t _ _ tb
        unfold t__is_by_r1
        walk_at "sx"
        refine e_genU.mpr ?_
        walk_at "sx"
        refine g_GE (L := L) (RR := fun H x d => Da S H x d) (goB encS (optsOf T D z) fun b o => showP T D many is m (trD b) (ps ++ [o])) t3 hP (.inr tb3.sq) (DaL.keep kd03 lb).ei (fun H' x r hx k => hx.keep (KD.ofT t3 k)) ?_ fun H4 k4 => ?_
        · intro j xb b H4 R R0 hj4 k4 t4 hxb hR
          obtain ⟨o, ho⟩ := hall b (List.mem_of_getElem? hj4)
          obtain ⟨h1, h2⟩ := pick_some ho
          obtain ⟨t, eb, et⟩ := headD_tup h2
          have eg : goB encS (optsOf T D z) (fun b o => showP T D many is m (trD b) (ps ++ [o])) b = showP T D many is m t (ps ++ [o]) := by
            unfold goB
            rw [ho]
            dsimp only
            rw [et]
          rw [eg] at hR
          subst eb
          obtain ⟨c, xs, rfl, tc, lc⟩ := da_tup hxb
          obtain ⟨v0, v1, rfl, d0, d1⟩ : ∃ v0 v1, xs = [v0, v1] ∧ Da S H4 v0 (.str o) ∧ Da S H4 v1 t := by
            cases lc with
            | cons a r =>
              cases r with
              | cons b r =>
                cases r
                exact ⟨_, _, rfl, a, b⟩
          obtain rfl := da_str d0
          have kt04 := kt03.trans k4
          have hc4 := kt04.k _ _ (ht.lst hc) hc
          have ec4 : EI (OpAt H4) cv ps := ec.mono fun _ _ h => h.keep kt04.k ht.noTup
          unfold StX.tStar
          walk_at "sx"
          refine ⟨cl, cv, rfl, .inr (lst_sq hc4), g_slT tc fun s0 H5 k5 t5 => ⟨by rw [List.length_append]; exact len_le (by rw [ec.length]; simp; omega), fun nl H6 n6 k6 e6 => ?_⟩⟩
          have ecut : cutV [V.str o, v1] none (some (-1)) = [V.str o] := cut_last _
          rw [ecut] at t5
          have k46 := k5.trans k6
          refine g_ixT (tc.keep k46 nin0) (at_last (xs := [V.str o]) (by simp)) ?_
          obtain ⟨m', rfl⟩ : ∃ m', m = m' + 1 := ⟨m - 1, by omega⟩
          have kt46 : KT L H4 H6 := KT.of0 k46
          have kt06 := kt04.trans kt46
          refine ⟨S, ch, nl, ll, many, T, D, cv ++ [.ref s0], ps ++ [o], is, v1, t, rfl, ob.kt ht kt06, ok, e6, ?_, ?_, by simp; omega, m9, kt06.k _ _ (ht.lst hll) hll, d1.keep (KD.of0 k46), kt06.t ht, by simp; omega, fun H7 k7 => ?_⟩
          · exact ei_snoc (R := OpAt H6) ⟨s0, rfl, t5.keep k6 nin0⟩ (ops_keep ec4 k46 noTup0)
          · exact fun w hw => (List.mem_append.mp hw).elim (hps w) fun h => by rw [List.mem_singleton.mp h]; exact opts_in o h1
          · exact hR _ (kt46.trans k7)
        · exact q' H4 (kt03.trans k4)
    · rw [decide_eq_false hlt, Bool.false_and] at q
      rw [if_pos (by omega)]
      exact q H1 (KT.of0 k1)
theorem arg_get {S : List Addr} {H : Hp} {xs : List V} {ds : List PyData} (h : DaL S H xs ds) {i : Nat} (hi : i < ds.length) : ∃ v, xs[i]? = some v ∧ Da S H v (argD i (.tuple ds)) := dal_getD h hi
theorem rd_showsP (K : PySem.W.Frag) {L : List Addr} {CN CS : Addr} (m : Nat) : ∀ vs H Q E, spShowsP K L CN CS (m + 1) vs H Q E → run (t__shows K spNodeX (spBareX CN CS) (spIsByP K L CN CS m) (spFullX CN CS)) (L2.start N__shows vs) H Q := by
  rintro _ H Q _ ⟨S, ch, cl, ll, many, T, D, cv, ps, is, x, d, rfl, ob, ok, hc, ec, hps, l10, m9, hll, hd, ht, hm, q⟩
  show run (t__shows K spNodeX (spBareX CN CS) (spIsByP K L CN CS m) (spFullX CN CS)) [some (.ref ch), some (.int (many : Nat)), some (.ref ll), some (.ref cl), some x] H Q
  rw [showP_eq] at q
  unfold t__shows
  walk_at "sx"
  refine ⟨S, x, d, "bare", 2, rfl, by decide, hd, _, rfl, ?_⟩
  cases hb : nodeB "bare" 2 d with
  | true =>
    rw [if_pos rfl]
    rw [node_not2 hb (w' := "full") (n' := 1) (.inr (by decide)), if_neg (by decide), if_pos hb] at q
    obtain ⟨ds, rfl, hl, _⟩ := node_tup hb
    obtain ⟨a, xs, rfl, t1, r1⟩ := da_tup hd
    obtain ⟨v, hv, dv⟩ := arg_get r1 (i := 1) (by omega)
    refine g_ixT t1 (at_lit 1 rfl hv) ?_
    exact ⟨S, ch, cl, many, T, D, cv, ps, v, _, rfl, ob, ok, hc, ec, hps, by omega, dv, fun H1 k1 => q H1 (KT.of0 k1)⟩
  | false =>
    rw [if_neg (by decide)]
    unfold t__shows_r2
    walk_at "sx"
    refine ⟨S, x, d, "by", 3, rfl, by decide, hd, _, rfl, ?_⟩
    cases hy : nodeB "by" 3 d with
    | true =>
      rw [if_pos rfl]
      rw [node_not2 hy (w' := "full") (n' := 1) (.inr (by decide)), if_neg (by decide), if_neg (by rw [hb]; decide), if_pos hy] at q
      obtain ⟨ds, rfl, hl, _⟩ := node_tup hy
      obtain ⟨a, xs, rfl, t1, r1⟩ := da_tup hd
      obtain ⟨v, hv, dv⟩ := arg_get r1 (i := 1) (by omega)
      obtain ⟨u, hu, du⟩ := arg_get r1 (i := 2) (by omega)
      refine g_ixT t1 (at_lit 1 rfl hv) (g_ixT t1 (at_lit 2 rfl hu) ?_)
      exact ⟨S, ch, cl, ll, many, T, D, cv, ps, is, v, u, _, _, rfl, ob, ok, hc, ec, hps, l10, m9, hll, dv, du, ht, hm, q⟩
    | false =>
      rw [if_neg (by decide)]
      unfold t__shows_r1
      walk_at "sx"
      refine ⟨S, x, d, "full", 1, rfl, by decide, hd, _, rfl, ?_⟩
      cases hf : nodeB "full" 1 d with
      | true =>
        rw [if_pos rfl]
        rw [if_pos hf] at q
        exact ⟨ch, cl, ll, many, T, D, cv, ps, is, rfl, ob, ok, hc, ec, hps, by omega, hll, fun H1 k1 => q H1 (KT.of0 k1)⟩
      | false =>
        rw [if_neg (by decide)]
        rw [if_neg (by rw [hf]; decide), if_neg (by rw [hb]; decide), if_neg (by rw [hy]; decide)] at q
        exact q H (KT.refl _ _)
/-- shows_posts, whatever thing is handed in -/
def spShowsPosts (K : PySem.W.Frag) (L : List Addr) : Sp := fun vs H Q _ => ∃ (S : List Addr) (t c p : Addr) (T : Tn) (D : Tab) (ps : List Str) (x : V) (d : PyData), vs = [.ref t, .ref c, .ref p, x] ∧ TnAt H t T ∧ TwOk T ∧ ChAt H c T.places.length D ∧ Tup H p (ps.map V.str) ∧ (∀ z ∈ ps, z ∈ T.stands) ∧ ps.length ≤ 5 ∧ Da S H x d ∧ Tabs L H ∧
  ∀ H', KT L H H' → Q (.bl (showP T D ps.length (ordOf T ps) 7 d [])) H'
theorem rd_showsPosts (K : PySem.W.Frag) {L : List Addr} {CN CS : Addr} : ∀ vs H Q E, spShowsPosts K L vs H Q E → run (t_shows_posts K (spStdNew CN CS) (spOrdered CN CS) (spShowsP K L CN CS 7) CS) (L2.start N_shows_posts vs) H Q := by
  rintro _ H Q _ ⟨S, t, c, p, T, D, ps, x, d, rfl, hT, ok, hC, tp, hps, l5, hd, ht, q⟩
  show run (t_shows_posts K (spStdNew CN CS) (spOrdered CN CS) (spShowsP K L CN CS 7) CS) [some (.ref t), some (.ref c), some (.ref p), some x, none, none, none] H Q
  have s5 := ok.s5
  unfold t_shows_posts
  walk_at "sx"
  unfold tNewC
  walk_at "sx"
  refine made_std hT ok.p10 hC (by omega) ok.sp fun ch H1 n1 k1 ob => ?_
  walk_at "sx"
  unfold tMth
  walk_at "sx"
  obtain ⟨dx, fs, i, as, a1, a2, a3, a4, a5, a6⟩ := ob.ob
  refine ⟨ch, dx, fs, rfl, a1, a4 _ (by decide +kernel) (by decide +kernel), ?_⟩
  refine g_CE (RR := fun _ (x : V) (y : Str) => x = V.str y) (.inr (tp.keep k1 nin0)) (ei_map V.str (fun _ => rfl) ps) (fun _ _ _ _ h _ => h) (fun j H' acc => EI (OpAt H') acc (ps.take j)) (fun _ _ _ _ => .nil) ?_ ?_
  · rintro D0 j _ y H2 acc R R0 nD hj k2 eD rfl hacc hR _
    walk_at "sx"
    refine ⟨by walk_at "sz", fun z H3 n3 k3 t3 => hR _ _ k3 (by rw [hacc.length, List.length_take]; exact len_lt (by omega)) fun H4 k4 => ?_⟩
    rw [List.take_succ, hj]
    have eD3 := k3 _ _ nin0 eD
    exact ei_snoc (R := OpAt H4) ⟨z, rfl, t3.keep k4 (noTup1 eD3 _ _ t3)⟩ (ops_keep (ops_keep hacc k3 noTup0) k4 (noTup1 eD3))
  · rintro ol H2 ov n2 k2 e2 f2
    rw [List.take_length] at f2
    have ob2 := ob.keep k2
    refine ⟨ch, ol, T, D, ov, ps, rfl, ob2, e2, f2, hps, by omega, fun ll H3 n3 k3 e3 => ?_⟩
    walk_at "sx"
    have k03 := k1.trans (k2.trans k3)
    refine g_lenT (tp.keep k03 nin0) ⟨by walk_at "sz", fun nl H4 n4 k4 e4 => ?_⟩
    have k04 := k03.trans k4
    rw [List.length_map]
    refine ⟨S, ch, nl, ll, ps.length, T, D, [], [], ordOf T ps, x, d, rfl, ob2.keep (k3.trans k4), ok, e4, .nil, fun _ h => (List.not_mem_nil h).elim, by simp, by omega, k4 _ _ nin0 e3, hd.keep (KD.of0 k04), ht.keep0 k04, by simp; omega, fun H5 k5 => q H5 ((KT.of0 k04).trans k5)⟩


/-! ### what the law looks at in a thing that may be a tree -/
def spNodeL : Sp := spNodeX
theorem rd_nodeL (K : PySem.W.Frag) : ∀ vs H Q E, spNodeL vs H Q E → run (t__law_is_node K) (L2.start N__law_is_node vs) H Q := by
  rintro _ H Q _ ⟨S, v, d, w, n, rfl, hn, hd, q⟩
  show run (t__law_is_node K) [some v, some (.str w), some (.int (n : Nat))] H Q
  unfold t__law_is_node
  walk_at "sx"
  refine g_isT hd ⟨_, rfl, ?_⟩
  cases ht : isTP d with
  | false =>
    rw [node_not ht] at q
    rw [if_neg (by decide)]
    exact q
  | true =>
    obtain ⟨ds, rfl⟩ := tp_is ht
    obtain ⟨a, xs, rfl, h1, h2⟩ := da_tup hd
    have hl := h2.len
    rw [if_pos rfl]
    refine g_lenT h1 (g_eq rfl ⟨_, rfl, ?_⟩)
    rw [dec_len hl]
    by_cases hlen : ds.length = n
    · rw [decide_eq_true hlen, if_pos rfl]
      obtain ⟨x, hx, hdx⟩ := dal_getD h2 (i := 0) (by omega)
      refine g_ixT h1 (at_lit 0 rfl hx) (g_isS hdx ⟨_, rfl, ?_⟩)
      have e : nodeB w n (.tuple ds) = txB w (ds.getD 0 .none) := by
        show (decide (ds.length = n) && _) = _
        rw [decide_eq_true hlen, Bool.true_and]
      rw [e] at q
      generalize ds.getD 0 .none = d0 at q hdx
      cases d0 with
      | str u =>
        obtain rfl := da_str hdx
        rw [if_pos (by rfl)]
        refine g_ixT h1 (at_lit 0 rfl hx) (g_eq rfl ?_)
        have e : decide (V.str u = V.str w) = txB w (.str u) := by
          show _ = decide (u = w)
          rw [decide_eq_decide]
          exact ⟨fun h => by injection h, fun h => by rw [h]⟩
        rw [e]
        exact q
      | _ =>
        rw [if_neg (by simp [isSP])]
        exact q
    · have e : nodeB w n (.tuple ds) = false := by
        show (decide (ds.length = n) && _) = _
        rw [decide_eq_false hlen, Bool.false_and]
      rw [decide_eq_false hlen, if_neg (by decide)]
      rw [e] at q
      exact q
def HbV (S : List Addr) (H : Hp) (x : V) (r : List V × PyData) : Prop := ∃ c ds, x = .ref c ∧ Tup H c r.1.dropLast ∧ r.2 = .tuple ds ∧ DaL S H r.1 ds ∧ 1 ≤ r.1.length
theorem HbV.kd {S : List Addr} {H H' : Hp} {x : V} {r : List V × PyData} (h : HbV S H x r) (k : KD S H H') : HbV S H' x r := let ⟨c, ds, e, t, e2, l, n⟩ := h; ⟨c, ds, e, k.t _ _ t, e2, DaL.keep k l, n⟩
theorem dal_any {S : List Addr} {H : Hp} : ∀ {xs : List V} {ds : List PyData}, DaL S H xs ds → ∀ x ∈ xs, AnyV H x
  | _, _, .nil, x, h => (List.not_mem_nil h).elim
  | _, _, .cons h r, x, hx => by
    rcases List.mem_cons.mp hx with rfl | hx
    · exact h.any
    · exact dal_any r x hx
theorem hb_heads {S : List Addr} {H : Hp} : ∀ {hv : List V} {rs : List (List V × PyData)}, EI (HbV S H) hv rs → EI (HdAt H) hv (rs.map fun r => r.1.dropLast)
  | _, _, .nil => .nil
  | _, _, .cons ⟨c, ds, e, t, e2, l, n⟩ h => .cons ⟨c, e, t, dal_any (dal_last l)⟩ (hb_heads h)
theorem hb_any {S : List Addr} {H : Hp} {ss : List Str} (ne : ss ≠ []) : ∀ {xs : List V} {rs : List (List V × PyData)}, EI (HbV S H) xs rs → ((rs.map fun r => r.1.dropLast).any fun xs => isTxts xs ss) = (rs.map (·.2)).any fun b => decide (headD b = some ss)
  | _, _, .nil => rfl
  | _, _, .cons (b := r) ⟨c, ds, e, t, e2, l, _⟩ es => by
    rw [List.map_cons, List.map_cons, List.any_cons, List.any_cons, hb_any ne es, head_is l ne, e2]
theorem op_heads {α : Type} {enc : α → List Str} {H : Hp} : ∀ {dv : List V} {os : List α}, EI (OpG enc H) dv os → EI (HdAt H) dv (os.map fun o => (enc o).map V.str)
  | _, _, .nil => .nil
  | _, _, .cons ⟨p, e, t⟩ h => .cons ⟨p, e, t, fun x hx => by
      obtain ⟨s, _, rfl⟩ := List.mem_map.mp hx
      exact .inl rfl⟩ (op_heads h)
theorem txts_map : ∀ (zs ss : List Str), isTxts (zs.map V.str) ss = decide (zs = ss)
  | [], [] => rfl
  | [], s :: ss => by simp [isTxts]
  | z :: zs, [] => by simp [isTxts]
  | z :: zs, s :: ss => by
    show (decide (z = s) && isTxts (zs.map V.str) ss) = _
    rw [txts_map zs ss, Bool.eq_iff_iff]
    simp
theorem all_sp : ∀ {ds : List PyData}, (ds.map isSP).all id = (txtsD ds).isSome
  | [] => rfl
  | d :: ds => by
    rw [List.map_cons, List.all_cons, all_sp]
    cases d with
    | str s =>
      show (true && _) = ((txtsD ds).map (s :: ·)).isSome
      rw [Bool.true_and, Option.isSome_map]
    | _ => rfl
theorem dal_txts {S : List Addr} {H : Hp} {xs : List V} {ss : List Str} (h : DaL S H xs (ss.map PyData.str)) : xs = ss.map V.str := by
  induction ss generalizing xs with
  | nil => cases h; rfl
  | cons s ss ih =>
    cases h with
    | cons a r => rw [da_str a, ih r]; rfl
theorem head_tup {ds : List PyData} (h : 1 ≤ ds.length) : headD (.tuple ds) = txtsD ds.dropLast := by
  cases ds with
  | nil => simp at h
  | cons d ds => rfl
theorem pick_any {α : Type} {enc : α → List Str} {os : List α} {b : PyData} {ss : List Str} (h : headD b = some ss) : (os.map fun o => (enc o).map V.str).any (fun xs => isTxts xs ss) = (pickD enc os b).isSome := by
  unfold pickD
  rw [List.any_map, h]
  have e : ((fun xs => isTxts xs ss) ∘ fun o => (enc o).map V.str) = fun o => decide (some ss = some (enc o)) := by
    funext o
    show isTxts ((enc o).map V.str) ss = _
    rw [txts_map, decide_eq_decide]
    exact ⟨fun h => by rw [h], fun h => (Option.some.inj h).symm⟩
  rw [e]
  exact (Bool.eq_iff_iff.mpr (by rw [List.any_eq_true, List.find?_isSome]))
theorem pick_none {α : Type} {enc : α → List Str} {os : List α} {b : PyData} (h : headD b = none) : pickD enc os b = none := by
  unfold pickD
  rw [h]
  exact List.find?_eq_none.mpr fun o _ => by simp
def spJustL {α : Type} (enc : α → List Str) : Sp := fun vs H Q _ => ∃ (S : List Addr) (hl dl : Addr) (hv dv : List V) (rs : List (List V × PyData)) (os : List α), vs = [.ref hl, .ref dl] ∧ H hl = some (.lst hv) ∧ EI (HbV S H) hv rs ∧ H dl = some (.lst dv) ∧ EI (OpG enc H) dv os ∧ os.length ≤ 100 ∧ (∀ r ∈ rs, r.1.length ≤ 100) ∧
  ∀ H', Keep [] H H' → Q (.bl (justB enc (rs.map (·.2)) os)) H'
theorem rd_justL (K : PySem.W.Frag) {α : Type} {enc : α → List Str} (ne : ∀ o, enc o ≠ []) : ∀ vs H Q E, spJustL enc vs H Q E → run (t__law_are_just K) (L2.start N__law_are_just vs) H Q := by
  rintro _ H Q _ ⟨S, hl, dl, hv, dv, rs, os, rfl, eh, fh, ed, fd, l100, r100, q⟩
  show run (t__law_are_just K) [some (.ref hl), some (.ref dl), none, none] H Q
  unfold t__law_are_just
  walk_at "sx"
  refine g_FEs (RR := HbV S) [] (.inl eh) nin0 fh (fun H' x r h k => h.kd (KD.of0 k)) (fun j σ H' => ∃ y2 y3, σ = [some (.ref hl), some (.ref dl), y2, y3] ∧ ((rs.map (·.2)).take j).all (fun b => (pickD enc os b).isSome) = true) ⟨_, _, rfl, by simp⟩ ?_ ?_
  · rintro j x r σ H1 hj k1 ⟨c, ds, rfl, tc, e2, lc, n1⟩ ⟨y2, y3, rfl, hall⟩
    have r1 := r100 r (List.mem_of_getElem? hj)
    have ll := dal_last lc
    have lll := lc.len
    have hbr : (rs.map (·.2))[j]? = some r.2 := by rw [List.getElem?_map, hj]; rfl
    have bad : (pickD enc os r.2).isSome = false → justB enc (rs.map (·.2)) os = false := fun h => by
      unfold justB
      have : (rs.map (·.2)).all (fun b => (pickD enc os b).isSome) = false := by
        rw [List.all_eq_false]
        exact ⟨_, List.mem_of_getElem? hbr, by rw [h]; decide⟩
      rw [this, Bool.false_and, Bool.false_and]
    have hd : headD r.2 = txtsD ds.dropLast := by rw [e2]; exact head_tup (by omega)
    walk_at "sx"
    unfold t__law_are_just_b1
    walk_at "sx"
    refine g_CE (RR := fun H x d => Da S H x d) (.inr tc) ll.ei (fun H H' x r h k => h.keep (KD.of0 k)) (fun i H' acc => acc = ((ds.dropLast.take i).map isSP).map V.bl) (fun _ _ _ _ => rfl) ?_ ?_
    · rintro L i y d H2 acc R R0 nL hi k2 eL hy rfl hR _
      walk_at "sx"
      have hi1 := (List.getElem?_eq_some_iff.mp hi).1
      rw [List.length_dropLast] at hi1
      refine g_isS hy (hR _ _ (Keep.refl _ _) (by rw [List.length_map, List.length_map, List.length_take]; exact len_lt (by omega)) fun H5 _ => ?_)
      rw [List.take_succ, hi, List.map_append, List.map_append]
      rfl
    · rintro L H2 acc nL k2 eL rfl
      rw [List.take_length] at eL
      refine ⟨L, _, rfl, lst_sq eL, ⟨_, rfl, ?_⟩⟩
      have ea : ((ds.dropLast.map isSP).all id) = (txtsD ds.dropLast).isSome := all_sp
      rw [ea]
      have k12 := k1.trans k2
      cases ht : txtsD ds.dropLast with
      | none =>
        rw [if_pos (by rfl)]
        rw [ht] at hd
        rw [bad (by rw [pick_none hd]; rfl)] at q
        exact q H2 k12
      | some ss =>
        rw [if_neg (by simp)]
        rw [ht] at hd
        have edl := txtsD_map ht
        have tc2 := tc.keep k2 nin0
        rw [edl] at ll
        rw [dal_txts ll] at tc2
        have ed2 := k12 _ _ nin0 ed
        have fd2 : EI (OpG enc H2) dv os := fd.mono fun _ _ h => h.keepN k12 noTup0
        refine g_ninH tc2 ed2 (op_heads fd2) ⟨_, rfl, ?_⟩
        rw [pick_any hd]
        cases hp : (pickD enc os r.2).isSome with
        | false =>
          rw [if_pos (by rfl)]
          rw [bad hp] at q
          exact q H2 k12
        | true =>
          rw [if_neg (by decide)]
          refine ⟨k12, _, _, rfl, ?_⟩
          rw [List.take_succ, hbr, List.all_append, hall]
          show (true && (([r.2] : List PyData).all fun b => (pickD enc os b).isSome)) = true
          rw [List.all_cons, hp]
          rfl
  · rintro σ H1 k1 ⟨y2, y3, rfl, hall⟩
    rw [show rs.length = (rs.map (·.2)).length from (List.length_map _).symm, List.take_length] at hall
    unfold justB at q
    rw [hall, Bool.true_and, List.length_map] at q
    have eh1 := k1 _ _ nin0 eh
    have ed1 := k1 _ _ nin0 ed
    have fd1 : EI (OpG enc H1) dv os := fd.mono fun _ _ h => h.keepN k1 noTup0
    have fh1 : EI (HbV S H1) hv rs := fh.mono fun _ _ h => h.kd (KD.of0 k1)
    unfold t__law_are_just_r1
    walk_at "sx"
    refine g_lenL eh1 (g_lenL ed1 (g_eq rfl ⟨_, rfl, ?_⟩))
    rw [dec_lenN, fh.length, fd.length]
    by_cases hlen : rs.length = os.length
    · rw [decide_eq_true hlen, if_pos rfl]
      rw [decide_eq_true hlen, Bool.true_and] at q
      refine g_CE (RR := OpG enc) (.inl ed1) fd1 (fun H H' x r h k => h.keepN k noTup0) (fun i H' acc => acc.length = ((os.take i).filter fun o => !((rs.map (·.2)).any fun b => decide (headD b = some (enc o)))).length) (fun _ _ _ _ => rfl) ?_ ?_
      · rintro L i x o H2 acc R R0 nL hi k2 eL ⟨p, rfl, tp⟩ hacc hR hR0
        walk_at "sx"
        have hil := (List.getElem?_eq_some_iff.mp hi).1
        have fl := List.length_filter_le (fun o => !((rs.map (·.2)).any fun b => decide (headD b = some (enc o)))) (os.take i)
        rw [List.length_take] at fl
        have fh2 : EI (HbV S H2) hv rs := fh1.mono fun _ _ h => h.kd (KD.of0 k2)
        refine g_ninH tp (k2 _ _ nin0 eh1) (hb_heads fh2) ⟨_, rfl, ?_⟩
        rw [hb_any (ne o) fh2]
        have nx : ((os.take (i + 1)).filter fun o => !((rs.map (·.2)).any fun b => decide (headD b = some (enc o)))) = ((os.take i).filter fun o => !((rs.map (·.2)).any fun b => decide (headD b = some (enc o)))) ++ (if (!((rs.map (·.2)).any fun b => decide (headD b = some (enc o)))) = true then [o] else []) := by
          rw [List.take_succ, hi, List.filter_append]
          congr 1
          by_cases h : (!((rs.map (·.2)).any fun b => decide (headD b = some (enc o)))) = true
          · rw [if_pos h]; exact List.filter_cons_of_pos h
          · rw [if_neg h]; exact List.filter_cons_of_neg h
        by_cases h : (!((rs.map (·.2)).any fun b => decide (headD b = some (enc o)))) = true
        · rw [if_pos h]
          rw [if_pos h] at nx
          refine hR _ _ (Keep.refl _ _) (by rw [hacc]; exact len_lt (by omega)) fun H5 _ => ?_
          rw [nx, List.length_append, List.length_append, hacc]
          rfl
        · rw [if_neg h]
          rw [if_neg h, List.append_nil] at nx
          refine hR0 _ (Keep.refl _ _) ?_
          rw [nx]
          exact hacc
      · rintro L H2 acc nL k2 eL hacc
        rw [List.take_length] at hacc
        refine g_lenL eL (g_eq rfl ?_)
        have e : decide (V.int (acc.length : Nat) = V.int 0) = (os.all fun o => (rs.map (·.2)).any fun b => decide (headD b = some (enc o))) := by
          rw [show (V.int 0) = V.int ((0 : Nat) : Int) from rfl, dec_lenN, hacc, Bool.eq_iff_iff, decide_eq_true_eq, List.length_eq_zero_iff, List.filter_eq_nil_iff, List.all_eq_true]
          constructor
          · intro h o ho
            have := h o ho
            simpa using this
          · intro h o ho
            rw [h o ho]
            decide
        rw [e]
        exact q H2 (k1.trans k2)
    · rw [decide_eq_false hlen, if_neg (by decide)]
      rw [decide_eq_false hlen, Bool.false_and] at q
      exact q H1 k1


theorem opts_some {T : Tn} {D : Tab} {ps : List Str} {y : Str} (h : y ∈ lackOf T D ps) : optsOf T D y ≠ [] := fun e => by
  obtain ⟨h1, h2⟩ := lack_iff.mp h
  have hg : y ∈ outOf T (bareOf T D T.stands) T.places.length := h1
  obtain ⟨hp, hn⟩ := List.mem_filter.mp hg
  have hn := of_decide_eq_true hn
  have : y ∈ T.stands.flatMap (nearOf T D) := Classical.byContradiction fun hc => hn (List.mem_filter.mpr ⟨hp, decide_eq_true hc⟩)
  obtain ⟨s, hs, hy⟩ := List.mem_flatMap.mp this
  have : s ∈ optsOf T D y := List.mem_filter.mpr ⟨hs, decide_eq_true hy⟩
  rw [e] at this
  cases this
/-- [stands.index(one) for one in ..] -/
theorem idx_of {K : PySem.W.Frag} {H : Hp} {Q : VK} {as l : Addr} {T : Tn} {ss : List Str} {xs : List V} {y0 y1 y2 y3 y4 y6 y7 y8 y9 : Option V} (ht : Tup H as (T.stands.map V.str)) (hl : Sq H l (ss.map V.str)) (hs : ∀ z ∈ ss, z ∈ T.stands) (l10 : ss.length ≤ 10)
    (q : ∀ L H', H L = none → Keep [] H H' → H' L = some (.lst ((ss.map fun z => ((pIx T.stands z : Nat) : Int)).map V.int)) → Q (.ref L) H') :
    CU K (gName 9) tYes (tIdx K (tVar 5) (tCons (tVar 9) tNil)) [9] [y0, y1, y2, y3, y4, some (.ref as), y6, y7, y8, y9] Q (.ref l) H := by
  refine g_CE (RR := fun _ (x : V) (y : Str) => x = V.str y) hl (ei_map V.str (fun _ => rfl) ss) (fun _ _ _ _ h _ => h) (fun j H' acc => acc = ((ss.take j).map fun z => ((pIx T.stands z : Nat) : Int)).map V.int) (fun _ _ _ _ => rfl) ?_ ?_
  · rintro L j _ z H1 acc R R0 nL hz k eL rfl rfl hR _
    have hin := hs z (List.mem_of_getElem? hz)
    walk_at "sx"
    refine ⟨as, T.stands, rfl, ht.keep k nin0, z, pIx T.stands z, rfl, ht.keep k nin0, pIx_at hin, fun m => pIx_first, ?_⟩
    refine hR _ _ (Keep.refl _ _) (by simp only [List.length_map, List.length_take]; exact len_lt (by omega)) fun H5 _ => ?_
    rw [List.take_succ, hz, List.map_append, List.map_append]
    rfl
  · rintro L H1 acc nL k eL rfl
    rw [List.take_length] at eL
    exact q L H1 nL k eL
theorem g_inL {K : PySem.W.Frag} {H : Hp} {Q : VK} {l : Addr} {y : Str} {ys : List Str} (h : H l = some (.lst (ys.map V.str))) (hy : y ∈ ys) (q : Q (.bl false) H) : uIn K true (.str y) (.ref l) H Q :=
  g_notinS h (by rw [decide_eq_false (fun c => c hy)]; exact q)
theorem nbw : ¬ ("by" : Str) = "bare" := by decide +kernel
/-! ### the law's own checker -/
def fewT : Nat → PyData → Prop
  | 0, _ => True
  | m + 1, d => ∀ bs, brsD (argD 2 d) = some bs → bs.length ≤ 900 ∧ ∀ b ∈ bs, fewT m (trD b)
def pairB : PyData → Bool
  | .tuple ds => decide (ds.length = 2)
  | _ => false
theorem pair_of {b : PyData} {o : Str} (h : headD b = some (encS o)) : pairB b = true := by
  obtain ⟨t, rfl, _⟩ := headD_tup h
  rfl
theorem just_pairs {bs : List PyData} {os : List Str} (h : bs.all pairB = false) : justB encS bs os = false := by
  rw [List.all_eq_false] at h
  obtain ⟨b, hb, h⟩ := h
  unfold justB
  have : bs.all (fun b => (pickD encS os b).isSome) = false := by
    rw [List.all_eq_false]
    refine ⟨b, hb, fun c => ?_⟩
    obtain ⟨o, ho⟩ := Option.isSome_iff_exists.mp c
    exact h (pair_of (pick_some ho).2)
  rw [this, Bool.false_and, Bool.false_and]
theorem pairs_of {S : List Addr} {H : Hp} : ∀ {xs : List V} {ds : List PyData}, DaL S H xs ds → ds.all pairB = true → ∃ rs : List (List V × PyData), EI (fun x r => BrV S H x r ∧ r.1.length = 2) xs rs ∧ rs.map (·.2) = ds
  | _, _, .nil, _ => ⟨[], .nil, rfl⟩
  | _, _, .cons (d := d) h r, ha => by
    rw [List.all_cons, Bool.and_eq_true] at ha
    obtain ⟨rs, e1, e2⟩ := pairs_of r ha.2
    cases d with
    | tuple ds' =>
      have h2 : ds'.length = 2 := of_decide_eq_true ha.1
      obtain ⟨a, ys, rfl, t1, t2⟩ := da_tup h
      exact ⟨(ys, .tuple ds') :: rs, .cons ⟨⟨a, ds', rfl, t1, rfl, t2⟩, by rw [t2.len, h2]⟩ e1, by rw [List.map_cons, e2]⟩
    | _ => cases ha.1
def spShowsL (K : PySem.W.Frag) : Nat → Sp
  | 0 => fun _ _ _ _ => False
  | m + 1 => fun vs H Q _ => ∃ (S : List Addr) (s nt tk : Addr) (tv : V) (T : Tn) (D : Tab) (is : List Int) (ps : List Str) (d : PyData), vs = [.ref s, .ref nt, tv, .ref tk] ∧ StgAt H s T D ∧ TwOk T ∧ Ris T.stands.length is ∧ is.length ≤ 9 ∧ Tup H nt ((nameOf T is).map V.str) ∧
    Da S H tv d ∧ fewT (m + 1) d ∧ H tk = some (.lst (ps.map V.str)) ∧ (∀ z ∈ ps, z ∈ T.stands) ∧ ps.length ≤ 10 ∧ is.length < ps.length + (m + 1) ∧ ∀ H', Keep [] H H' → Q (.bl (showP T D is.length is (m + 1) d ps)) H'
theorem da_argstr {S : List Addr} {H : Hp} {v : V} {d : PyData} (h : Da S H v d) (e : isSP d = true) : ∃ y, d = .str y ∧ v = .str y := by
  cases h with
  | str z => exact ⟨z, rfl, rfl⟩
  | _ => cases e
theorem inP_not {ys : List Str} {d : PyData} (h : isSP d = false) : inP ys d = false := by
  cases d <;> first | rfl | cases h
theorem brs_not {d : PyData} (h : isTP d = false) : brsD d = none := by
  cases d <;> first | rfl | cases h
theorem rd_showsL (K : PySem.W.Frag) (m : Nat) : ∀ vs H Q E, spShowsL K (m + 1) vs H Q E → run (t__law_shows K spLeft spNodeL (spJustL encS) (spShowsL K m)) (L2.start N__law_shows vs) H Q := by
  rintro _ H Q _ ⟨S, s, nt, tk, tv, T, D, is, ps, d, rfl, sg, ok, ris, i9, tnt, hd, few, htk, hps, l10, hm, q⟩
  show run (t__law_shows K spLeft spNodeL (spJustL encS) (spShowsL K m)) [some (.ref s), some (.ref nt), some tv, some (.ref tk), none, none, none, none, none, none] H Q
  have s5 := ok.s5
  have lnm : (nameOf T is).length = is.length := by unfold nameOf; rw [List.length_map]
  have nml : ∀ y ∈ lackOf T D ps, NmS 30 y := fun y hy => ok.nm y (lack_in y hy)
  rw [showP_eq] at q
  unfold t__law_shows
  walk_at "sx"
  refine ⟨s, tk, T, D, ps, rfl, sg, ok.p10, htk, by omega, fun z hz => ok.sp z (hps z hz), fun l H1 n1 k1 e1 => ?_⟩
  obtain ⟨as, ds, tas⟩ := stg_get sg k1
  refine ⟨s, .ref as, rfl, ds, by walk_at "sz", fun pt H2 n2 k2 t2 => g_tup t2 rfl ?_⟩
  walk_at "sx"
  refine ⟨_, _, rfl, _, _, rfl, rfl, ?_⟩
  walk_at "sx"
  have k12 := k1.trans k2
  have e1' := k2 _ _ nin0 e1
  have tas2 := tas.keep k2 nin0
  have hd2 := hd.keep (KD.of0 k12)
  have tk2 := k12 _ _ nin0 htk
  refine ⟨S, tv, d, "full", 1, rfl, by decide, hd2, _, rfl, ?_⟩
  cases hf : nodeB "full" 1 d with
  | true =>
    rw [if_pos hf] at q
    unfold fullP at q
    rw [if_pos rfl]
    refine idx_of (xs := []) tas2 (.inl tk2) hps (by omega) fun L H3 nL k3 eL => ?_
    refine g_sortZ eL fun L2 H4 nL2 k4 eL2 => ?_
    walk_at "sx"
    have k24 := k3.trans k4
    have k04 := k12.trans k24
    refine g_lenL (k04 _ _ nin0 htk) (g_lenT (tnt.keep k04 nin0) (g_eq rfl ⟨_, rfl, ?_⟩))
    rw [dec_lenN, List.length_map, List.length_map, lnm]
    by_cases hl : ps.length = is.length
    · rw [decide_eq_true hl, if_pos rfl]
      rw [decide_eq_true hl, Bool.true_and] at q
      refine ⟨by walk_at "sz", fun e0 H5 n5 k5 f5 => eq_nilN nml (k5 _ _ nin0 (k24 _ _ nin0 e1')) f5 ⟨_, rfl, ?_⟩⟩
      have k25 := k24.trans k5
      have k05 := k12.trans k25
      by_cases hlk : lackOf T D ps = []
      · rw [decide_eq_true hlk, if_pos rfl]
        rw [decide_eq_true hlk, Bool.true_and] at q
        refine idx_of (xs := []) (tas2.keep k25 nin0) (.inr (tnt.keep k05 nin0)) (name_in ris) (by omega) fun L3 H6 nL3 k6 eL3 => ?_
        rw [name_pIx ok.nds ris] at eL3
        have eL2' : H6 L2 = some (.lst ((ordOf T ps).map V.int)) := (k5.trans k6) _ _ nin0 eL2
        refine ⟨.list ((ordOf T ps).map .int), .list (is.map .int), .lst (lst_sq eL2') (dp_ints2 _), .lst (lst_sq eL3) (dp_ints2 is), by simp [PySem.W.alike, alike_ints], (fun c => nomatch c), by simp [PyData.depth, depth_ints2], _, rfl, ?_⟩
        exact q H6 (k05.trans k6)
      · rw [decide_eq_false hlk, if_neg (by decide)]
        rw [decide_eq_false hlk, Bool.false_and] at q
        exact q H5 k05
    · rw [decide_eq_false hl, if_neg (by decide)]
      rw [decide_eq_false hl, Bool.false_and, Bool.false_and] at q
      exact q H4 k04
  | false =>
    rw [if_neg (by rw [hf]; decide)] at q
    rw [if_neg (by decide)]
    unfold t__law_shows_r7
    walk_at "sx"
    refine ⟨S, tv, d, "bare", 2, rfl, by decide, hd2, _, rfl, ?_⟩
    have both : ∀ (isB : Bool), nodeB "bare" 2 d = isB → nodeB "by" 3 d = !isB →
        t__law_shows_r6 K spLeft spNodeL (spJustL encS) (spShowsL K m) { nx := fun x H' => Q V.non H', rt := Q } [some (.ref s), some (.ref nt), some tv, some (.ref tk), some (.ref l), some (.ref as), none, none, none, none] H2 := by
      intro isB hb hy
      obtain ⟨w, n, hn, hw⟩ : ∃ (w : Str) (n : Nat), 2 ≤ n ∧ nodeB w n d = true ∧ w = (if isB = true then "bare" else "by") ∧ (isB = false → n = 3) := by
        cases isB with
        | true => exact ⟨"bare", 2, by decide, hb, rfl, fun h => nomatch h⟩
        | false => exact ⟨"by", 3, by decide, hy, rfl, fun _ => rfl⟩
      obtain ⟨hw, ew, en⟩ := hw
      obtain ⟨dd, rfl, hlen, hhead⟩ := node_tup hw
      obtain ⟨a, xs, rfl, t1, r1⟩ := da_tup hd2
      obtain ⟨v0, hv0, dv0⟩ := dal_getD r1 (i := 0) (by omega)
      rw [hhead] at dv0
      obtain rfl := da_str dv0
      obtain ⟨v1, hv1, dv1⟩ := arg_get r1 (i := 1) (by omega)
      unfold t__law_shows_r6
      walk_at "sx"
      refine g_ixT t1 (at_lit 1 rfl hv1) (g_isS dv1 ⟨_, rfl, ?_⟩)
      have nopl : inP (lackOf T D ps) (argD 1 (.tuple dd)) = false → ∀ H', Keep [] H H' → Q (.bl false) H' := fun h H' k => by
        have := q H' k
        unfold bareP byP at this
        rw [h, Bool.false_and, Bool.false_and, Bool.false_and] at this
        cases isB with
        | true => rwa [if_pos hb] at this
        | false => rwa [if_neg (by rw [hb]; decide), if_pos (show nodeB "by" 3 (.tuple dd) = true from hy)] at this
      cases hsp : isSP (argD 1 (.tuple dd)) with
      | false =>
        rw [if_pos (by rfl)]
        exact nopl (inP_not hsp) H2 k12
      | true =>
        rw [if_neg (by decide)]
        obtain ⟨y, ey, rfl⟩ := da_argstr dv1 hsp
        refine g_ixT t1 (at_lit 1 rfl hv1) (g_notinS e1' ⟨_, rfl, ?_⟩)
        by_cases hyl : y ∈ lackOf T D ps
        · have hin : inP (lackOf T D ps) (argD 1 (.tuple dd)) = true := by rw [ey]; exact decide_eq_true hyl
          rw [decide_eq_false (fun c => c hyl), if_neg (by decide)]
          unfold t__law_shows_r5
          walk_at "sx"
          refine g_ixT t1 (at_lit 0 rfl hv0) (g_eq rfl ⟨_, rfl, ?_⟩)
          cases isB with
          | true =>
            rw [if_pos hb] at q
            unfold bareP at q
            have eo : (optsOf T D y).isEmpty = false := by
              cases ho : optsOf T D y with
              | nil => exact absurd ho (opts_some hyl)
              | cons o os => rfl
            rw [hin, Bool.true_and, ey, show (optsOf T D (txD (.str y))).isEmpty = false from eo, Bool.or_false] at q
            rw [ew, if_pos rfl, decide_eq_true rfl, if_pos rfl]
            refine g_lenL tk2 (g_lenT (tnt.keep k12 nin0) (g_eq rfl ?_))
            rw [dec_lenN, List.length_map, List.length_map, lnm]
            exact q H2 k12
          | false =>
            rw [if_neg (by rw [hb]; decide), if_pos (show nodeB "by" 3 (.tuple dd) = true from hy)] at q
            unfold byP at q
            rw [hin, Bool.true_and, ey] at q
            have n3 := en rfl
            subst n3
            rw [ew, if_neg (by decide)]
            obtain ⟨v2, hv2, dv2⟩ := arg_get r1 (i := 2) (by omega)
            unfold t__law_shows_r4
            walk_at "sx"
            refine g_lenL tk2 (g_lenT (tnt.keep k12 nin0) ?_)
            walk_at "sx"
            rw [List.length_map, List.length_map, lnm]
            by_cases hlt : ps.length < is.length
            · rw [decide_eq_true hlt, Bool.true_and] at q
              rw [if_neg (by omega)]
              refine g_ixT t1 (at_lit 2 rfl hv2) (g_isT dv2 ⟨_, rfl, ?_⟩)
              generalize hd2' : argD 2 (.tuple dd) = db at dv2 q
              cases htp : isTP db with
              | false =>
                rw [if_pos (by rfl)]
                have e : allB encS (optsOf T D (txD (.str y))) (fun b o => showP T D is.length is m (trD b) (ps ++ [o])) db = false := by
                  unfold allB
                  rw [brs_not htp]
                rw [e] at q
                exact q H2 k12
              | true =>
                obtain ⟨bs, rfl⟩ := tp_is htp
                rw [if_neg (by decide)]
                obtain ⟨b900, bfew⟩ := few bs (by rw [hd2']; rfl)
                obtain ⟨ba, bv, rfl, tb, lb⟩ := da_tup dv2
                have lbv := lb.len
                unfold t__law_shows_r3
                walk_at "sx"
                refine g_ixT t1 (at_lit 2 rfl hv2) ?_
                refine g_CE (RR := fun H x d => Da S H x d) (.inr tb) lb.ei (fun H H' x r h k => h.keep (KD.of0 k)) (fun i H' acc => acc.length = ((bs.take i).filter fun b => !pairB b).length) (fun _ _ _ _ => rfl) ?_ ?_
                · rintro L i x b H3 acc R R0 nL hi k3 eL hx hacc hR hR0
                  have fl := List.length_filter_le (fun b => !pairB b) (bs.take i)
                  rw [List.length_take] at fl
                  have nx : ((bs.take (i + 1)).filter fun b => !pairB b) = ((bs.take i).filter fun b => !pairB b) ++ (if pairB b = true then [] else [b]) := by
                    rw [List.take_succ, hi, List.filter_append]
                    congr 1
                    show List.filter _ [b] = _
                    cases hp : pairB b with
                    | true => rw [if_pos rfl]; exact List.filter_cons_of_neg (by rw [hp]; decide)
                    | false => rw [if_neg (by decide)]; exact List.filter_cons_of_pos (by rw [hp]; rfl)
                  have yes : pairB b = false → R x H3 := fun hp => by
                    rw [if_neg (by rw [hp]; decide)] at nx
                    refine hR _ _ (Keep.refl _ _) (by rw [hacc]; exact len_lt (by omega)) fun H5 _ => ?_
                    rw [nx, List.length_append, List.length_append, hacc]
                    rfl
                  have no : pairB b = true → R0 H3 := fun hp => by
                    rw [if_pos hp, List.append_nil] at nx
                    refine hR0 _ (Keep.refl _ _) ?_
                    rw [nx]
                    exact hacc
                  walk_at "sx"
                  refine g_isT hx ⟨_, rfl, ?_⟩
                  cases htb : isTP b with
                  | false =>
                    rw [if_pos (by rfl)]
                    exact yes (by cases b <;> first | rfl | cases htb)
                  | true =>
                    obtain ⟨ds', rfl⟩ := tp_is htb
                    obtain ⟨c, cs, rfl, c1, c2⟩ := da_tup hx
                    rw [if_neg (by decide)]
                    refine g_lenT c1 (g_ne rfl ⟨_, rfl, ?_⟩)
                    have e : decide (V.int (cs.length : Nat) = V.int 2) = pairB (.tuple ds') := by
                      rw [show (V.int 2) = V.int ((2 : Nat) : Int) from rfl, dec_lenN, c2.len]
                      rfl
                    rw [e]
                    cases hp : pairB (.tuple ds') with
                    | false => rw [if_pos (by rfl)]; exact yes hp
                    | true => rw [if_neg (by decide)]; exact no hp
                rintro L0 H3 acc nL0 k3 eL0 hacc
                rw [List.take_length] at hacc
                refine ⟨by walk_at "sz", fun e0 H4 n4 k4 f4 => g_neE (k4 _ _ nin0 eL0) f4 ⟨_, rfl, ?_⟩⟩
                have k24 := k3.trans k4
                have k04 := k12.trans k24
                have t14 := t1.keep k24 nin0
                have tb4 := tb.keep k24 nin0
                have ea : acc.isEmpty = bs.all pairB := by
                  rw [Bool.eq_iff_iff, List.isEmpty_iff_length_eq_zero, hacc, List.length_eq_zero_iff, List.filter_eq_nil_iff, List.all_eq_true]
                  constructor
                  · intro h b hb
                    simpa using h b hb
                  · intro h b hb
                    rw [h b hb]
                    decide
                rw [ea]
                cases hpa : bs.all pairB with
                | false =>
                  rw [if_pos (by rfl)]
                  have e : allB encS (optsOf T D (txD (.str y))) (fun b o => showP T D is.length is m (trD b) (ps ++ [o])) (.tuple bs) = false := allB_not (just_pairs hpa)
                  rw [e] at q
                  exact q H4 k04
                | true =>
                  rw [if_neg (by decide)]
                  obtain ⟨rs, ers, erm⟩ := pairs_of lb hpa
                  unfold t__law_shows_r2
                  walk_at "sx"
                  refine g_CE (RR := fun _ (x : V) (y : Str) => x = V.str y) (.inr (tas2.keep k24 nin0)) (ei_map V.str (fun _ => rfl) T.stands) (fun _ _ _ _ h _ => h) (fun j H' acc => EI (OpAt H') acc ((T.stands.take j).filter fun s => decide (y ∈ nearOf T D s))) (fun _ _ _ _ => .nil) ?_ ?_
                  · rintro L j _ s' H5 acc R R0 nL hs k eL rfl hacc hR hR0
                    have nx := flt_next (p := fun s => decide (y ∈ nearOf T D s)) hs
                    have fl := flt_len (p := fun s => decide (y ∈ nearOf T D s)) (l := T.stands) (i := j)
                    have k05 := k04.trans k
                    walk_at "sx"
                    refine g_ixT (t14.keep k nin0) (at_lit 1 rfl hv1) ?_
                    obtain ⟨kvs, ap, nd', gl, a1, a2, a3, a4, a5, a6, a7⟩ := (sg.keep k05).ob
                    have dn : DGet H5 s (.str "near") (some (.ref nd')) := by
                      have := DGet.k (k := (Sum.inr ("near" : Str) : Key)) a1
                      rw [a3] at this
                      exact this
                    obtain ⟨kv, b1, b2⟩ := a6
                    obtain ⟨e, v, g⟩ := b2 s' (ok.sp s' (List.mem_of_getElem? hs))
                    refine ⟨s, .ref nd', rfl, dn, nd', .ref e, rfl, ?_, ?_⟩
                    · have := DGet.k (k := (Sum.inr s' : Key)) b1
                      rw [v] at this
                      exact this
                    refine g_inN g ⟨_, rfl, ?_⟩
                    by_cases h : y ∈ nearOf T D s'
                    · rw [decide_eq_true h, if_pos rfl]
                      rw [if_pos (by simpa using h)] at nx
                      refine ⟨by walk_at "sz", fun p H6 n2' k2 t2 => hR _ _ k2 (by rw [hacc.length]; exact len_lt (by omega)) fun H7 k3 => ?_⟩
                      rw [nx]
                      have eL2 := k2 _ _ nin0 eL
                      exact ei_snoc (R := OpAt H7) ⟨p, rfl, t2.keep k3 (noTup1 eL2 _ _ t2)⟩ (ops_keep (ops_keep hacc k2 noTup0) k3 (noTup1 eL2))
                    · rw [decide_eq_false h, if_neg (by decide)]
                      rw [if_neg (by simpa using h), List.append_nil] at nx
                      refine hR0 _ (Keep.refl _ _) ?_
                      rw [nx]
                      exact hacc
                  rintro Ld H5 dv nLd k5 eLd fd
                  rw [List.take_length] at fd
                  have fd : EI (OpAt H5) dv (optsOf T D y) := fd
                  walk_at "sx"
                  have k25 := k24.trans k5
                  have k05 := k12.trans k25
                  have o5 : (optsOf T D y).length ≤ 5 := Nat.le_trans opts_len s5
                  have ers5 : EI (fun x r => BrV S H5 x r ∧ r.1.length = 2) bv rs := ers.mono fun _ _ h => ⟨h.1.kd (KD.of0 k25), h.2⟩
                  have lrs : rs.length = bs.length := by rw [← erm, List.length_map]
                  refine g_ixT (t14.keep k5 nin0) (at_lit 2 rfl hv2) ?_
                  refine g_CE (RR := fun H x r => BrV S H x r ∧ r.1.length = 2) (.inr (tb4.keep k5 nin0)) ers5 (fun H H' x r h k => ⟨h.1.kd (KD.of0 k), h.2⟩) (fun j H' acc => EI (fun v (r : List V × PyData) => ∃ p, v = .ref p ∧ Tup H' p r.1.dropLast) acc (rs.take j)) (fun _ _ _ _ => .nil) ?_ ?_
                  · rintro L j x r H6 acc R R0 nL hj k6 eL ⟨⟨c, ds', rfl, c1, c2, c3⟩, c4⟩ hacc hR _
                    have hjl := (List.getElem?_eq_some_iff.mp hj).1
                    walk_at "sx"
                    refine g_slT c1 fun p H7 k7 t7 => ?_
                    have ec : cutV r.1 none (some 1) = r.1.dropLast := by
                      obtain ⟨xs', b'⟩ := r
                      match xs', c4 with
                      | [u, w], _ => rfl
                    rw [ec] at t7
                    have eL7 := k7 _ _ nin0 eL
                    refine hR _ _ k7 (by rw [hacc.length, List.length_take]; exact len_lt (by omega)) fun H8 k8 => ?_
                    rw [List.take_succ, hj]
                    exact ei_snoc (R := fun v (r : List V × PyData) => ∃ p, v = .ref p ∧ Tup H8 p r.1.dropLast) ⟨p, rfl, t7.keep k8 (noTup1 eL7 _ _ t7)⟩ (hacc.mono fun _ _ ⟨p, e, t⟩ => ⟨p, e, (t.keep k7 nin0).keep k8 (noTup1 eL7 _ _ (t.keep k7 nin0))⟩)
                  rintro Lh H6 hv nLh k6 eLh fh
                  rw [List.take_length] at fh
                  have fh6 : EI (HbV S H6) hv rs := by
                    have e6 : EI (fun x r => BrV S H6 x r ∧ r.1.length = 2) bv rs := ers5.mono fun _ _ h => ⟨h.1.kd (KD.of0 k6), h.2⟩
                    have mix : ∀ {hv xs : List V} {rs : List (List V × PyData)}, EI (fun v (r : List V × PyData) => ∃ p, v = .ref p ∧ Tup H6 p r.1.dropLast) hv rs → EI (fun x r => BrV S H6 x r ∧ r.1.length = 2) xs rs → EI (HbV S H6) hv rs := by
                      intro hv xs rs h
                      induction h generalizing xs with
                      | nil => intro _; exact .nil
                      | cons h t ih =>
                        intro h'
                        cases h' with
                        | cons g g' =>
                          obtain ⟨p, e, tp⟩ := h
                          obtain ⟨⟨c, ds', _, _, e2, l⟩, n⟩ := g
                          exact .cons ⟨p, ds', e, tp, e2, l, by omega⟩ (ih g')
                    exact mix fh e6
                  have r100 : ∀ r ∈ rs, r.1.length ≤ 100 := fun r hr => by
                    have : ∀ {xs : List V} {rs : List (List V × PyData)}, EI (fun x r => BrV S H5 x r ∧ r.1.length = 2) xs rs → ∀ r ∈ rs, r.1.length = 2 := by
                      intro xs rs h
                      induction h with
                      | nil => intro r hr; cases hr
                      | cons h t ih =>
                        intro r hr
                        rcases List.mem_cons.mp hr with rfl | hr
                        · exact h.2
                        · exact ih r hr
                    rw [this ers5 r hr]
                    decide
                  refine ⟨S, Lh, Ld, hv, dv, rs, optsOf T D y, rfl, eLh, fh6, k6 _ _ nin0 eLd, ops_keep fd k6 noTup0, by omega, r100, fun H7 k7 => ⟨_, rfl, ?_⟩⟩
                  rw [erm]
                  have k27 := k25.trans (k6.trans k7)
                  have k07 := k12.trans k27
                  cases hj : justB encS bs (optsOf T D y) with
                  | false =>
                    rw [if_pos (by rfl)]
                    have e : allB encS (optsOf T D (txD (.str y))) (fun b o => showP T D is.length is m (trD b) (ps ++ [o])) (.tuple bs) = false := allB_not hj
                    rw [e] at q
                    exact q H7 k07
                  | true =>
                    rw [if_neg (by decide)]
                    have hall := just_pick hj
                    have lbs : bs.length = (optsOf T D y).length := by
                      unfold justB at hj
                      rw [Bool.and_eq_true, Bool.and_eq_true] at hj
                      exact of_decide_eq_true hj.1.2
                    have q' : ∀ H', Keep [] H H' → Q (.bl (bs.all (goB encS (optsOf T D y) fun b o => showP T D is.length is m (trD b) (ps ++ [o])))) H' := fun H' k => by
                      have := q H' k
                      have e : allB encS (optsOf T D (txD (.str y))) (fun b o => showP T D is.length is m (trD b) (ps ++ [o])) (.tuple bs) = bs.all (goB encS (optsOf T D y) fun b o => showP T D is.length is m (trD b) (ps ++ [o])) := by
                        show (justB encS bs (optsOf T D y) && _) = _
                        rw [hj, Bool.true_and]
                        rfl
                      rwa [e] at this
                    unfold t__law_shows_r1
                    walk_at "sx"
                    refine g_ixT (t1.keep k27 nin0) (at_lit 2 rfl hv2) ?_
                    refine g_CE (RR := fun H x d => Da S H x d) (.inr (tb.keep k27 nin0)) (DaL.keep (KD.of0 k27) lb).ei (fun H H' x r h k => h.keep (KD.of0 k)) (fun j H' acc => acc = ((bs.take j).map (goB encS (optsOf T D y) fun b o => showP T D is.length is m (trD b) (ps ++ [o]))).map V.bl) (fun _ _ _ _ => rfl) ?_ ?_
                    · rintro L j x b H8 acc R R0 nL hj8 k8 eL hx rfl hR _
                      have hjl := (List.getElem?_eq_some_iff.mp hj8).1
                      have hbm := List.mem_of_getElem? hj8
                      obtain ⟨o, ho⟩ := hall b hbm
                      obtain ⟨h1, h2⟩ := pick_some ho
                      obtain ⟨t, eb, et⟩ := headD_tup h2
                      have eg : goB encS (optsOf T D y) (fun b o => showP T D is.length is m (trD b) (ps ++ [o])) b = showP T D is.length is m t (ps ++ [o]) := by
                        unfold goB
                        rw [ho]
                        dsimp only
                        rw [et]
                      have ft := bfew b hbm
                      rw [et] at ft
                      subst eb
                      obtain ⟨c, xs', rfl, tc, lc⟩ := da_tup hx
                      obtain ⟨v0, v1', rfl, d0, d1⟩ : ∃ v0 v1, xs' = [v0, v1] ∧ Da S H8 v0 (.str o) ∧ Da S H8 v1 t := by
                        cases lc with
                        | cons a r =>
                          cases r with
                          | cons b r =>
                            cases r
                            exact ⟨_, _, rfl, a, b⟩
                      obtain rfl := da_str d0
                      walk_at "sx"
                      have k08 := k07.trans k8
                      refine g_ixT tc (at_lit 1 rfl rfl) (g_ixT tc (at_lit 0 rfl rfl) ⟨by walk_at "sz", fun l1' H9 n9 k9 e9 => ?_⟩)
                      refine g_addL ((k08.trans k9) _ _ nin0 htk) e9 (by rw [List.length_map]; exact len_le (by simp; omega)) fun l2' HA nA kA eA => ?_
                      have k8A := k9.trans kA
                      have k0A := k08.trans k8A
                      obtain ⟨m', rfl⟩ : ∃ m', m = m' + 1 := ⟨m - 1, by omega⟩
                      refine ⟨S, s, nt, l2', v1', T, D, is, ps ++ [o], t, rfl, sg.keep k0A, ok, ris, i9, tnt.keep k0A nin0, d1.keep (KD.of0 k8A), ft, by rw [eA, List.map_append]; rfl, ?_, by simp; omega, by simp; omega, fun HB kB => ?_⟩
                      · exact fun z hz => (List.mem_append.mp hz).elim (hps z) fun h => by rw [List.mem_singleton.mp h]; exact opts_in o h1
                      refine hR _ _ (k8A.trans kB) (by rw [List.length_map, List.length_map, List.length_take]; exact len_lt (by omega)) fun HC _ => ?_
                      rw [List.take_succ, hj8, List.map_append, List.map_append]
                      show _ = _ ++ [V.bl _]
                      rw [eg]
                    · rintro L H8 acc nL k8 eL rfl
                      rw [List.take_length] at eL
                      refine ⟨L, _, rfl, lst_sq eL, ?_⟩
                      have e : ((bs.map (goB encS (optsOf T D y) fun b o => showP T D is.length is m (trD b) (ps ++ [o]))).all id) = bs.all (goB encS (optsOf T D y) fun b o => showP T D is.length is m (trD b) (ps ++ [o])) := by
                        rw [List.all_map]
                        rfl
                      rw [e]
                      exact q' H8 (k07.trans k8)
            · rw [decide_eq_false hlt, Bool.false_and] at q
              rw [if_pos (by omega)]
              exact q H2 k12
        · rw [decide_eq_true hyl, if_pos rfl]
          exact nopl (by rw [ey]; exact decide_eq_false hyl) H2 k12
    cases hb : nodeB "bare" 2 d with
    | true =>
      rw [if_neg (by decide)]
      exact both true hb (node_not2 hb (.inl (by decide +kernel)))
    | false =>
      rw [if_pos (by decide)]
      refine ⟨S, tv, d, "by", 3, rfl, by decide, hd2, _, rfl, ?_⟩
      cases hy : nodeB "by" 3 d with
      | true =>
        rw [if_neg (by decide)]
        exact both false hb hy
      | false =>
        rw [if_pos (by decide)]
        rw [if_neg (by rw [hb]; decide), if_neg (by rw [hy]; decide)] at q
        exact q H2 k12


/-! ### what the law keeps beside its pen -/
structure StgP (d : Addr) (H : Hp) (s : Addr) (T : Tn) (D : Tab) : Prop where
  a : StgAt H s T D
  n : s ≠ d
  m : ∀ nd, NdOf H s nd → nd ≠ d
theorem nd_back {H H' : Hp} {s nd : Addr} {T : Tn} {D : Tab} (h : StgAt H s T D) (k : ∀ kvs, H s = some (.dK kvs) → H' s = some (.dK kvs)) (x : NdOf H' s nd) : NdOf H s nd := by
  obtain ⟨kvs, as, b1, b2, b3⟩ := h.st
  obtain ⟨kv, e, v⟩ := x
  rw [k _ b1] at e
  have e' : kvs = kv := by injection e with e; injection e
  exact ⟨kvs, b1, by rw [e']; exact v⟩
theorem StgP.keep {d s : Addr} {H H' : Hp} {T : Tn} {D : Tab} (h : StgP d H s T D) (k : Keep [] H H') : StgP d H' s T D := ⟨h.a.keep k, h.n, fun nd x => h.m nd (nd_back h.a (fun _ e => k _ _ nin0 e) x)⟩
theorem StgP.keepG {d s : Addr} {H H' : Hp} {T : Tn} {D : Tab} (h : StgP d H s T D) (kl : ∀ a xs, H a = some (.lst xs) → H' a = some (.lst xs)) (kt : ∀ a xs, Tup H a xs → Tup H' a xs) (kd : ∀ a kvs, H a = some (.dK kvs) → a ≠ d → H' a = some (.dK kvs)) : StgP d H' s T D := by
  obtain ⟨kvs, ap, nd, gl, a1, a2, a3, a4, a5, ⟨kv, f1, f2⟩, a7⟩ := h.a.ob
  obtain ⟨kv2, as, b1, b2, b3⟩ := h.a.st
  have nn := h.m nd ⟨kvs, a1, a3⟩
  refine ⟨⟨⟨kvs, ap, nd, gl, kd _ _ a1 h.n, a2, a3, a4, kt _ _ a5, ⟨kv, kd _ _ f1 nn, fun z hz => ?_⟩, kl _ _ a7⟩, kv2, as, kd _ _ b1 h.n, b2, kt _ _ b3⟩, h.n, fun nd x => h.m nd (nd_back h.a (fun _ e => kd _ _ e h.n) x)⟩
  obtain ⟨e, x, y⟩ := f2 z hz
  exact ⟨e, x, kl _ _ y⟩
theorem StgP.keepP {d c s : Addr} {H H' : Hp} {T : Tn} {D : Tab} {n : Nat} (h : StgP d H s T D) (p : PenOk H d c n) (k : Keep [d] H H') : StgP d H' s T D :=
  h.keepG (fun _ _ e => k _ _ (nin1 (p.neL e)) e) (fun _ _ t => t.keep k (p.noTup _ _ t)) fun _ _ e n => k _ _ (nin1 n) e
theorem StgP.kt {L : List Addr} {d s : Addr} {H H' : Hp} {T : Tn} {D : Tab} (h : StgP d H s T D) (ht : Tabs L H) (k : KT L H H') : StgP d H' s T D :=
  h.keepG (fun _ _ e => k.k _ _ (ht.lst e) e) (fun _ _ t => t.kt ht k) fun _ _ e n => k.k _ _ (ht.dK e) e
theorem StgP.of {d c s : Addr} {H H' : Hp} {T : Tn} {D : Tab} {n : Nat} (p : PenOk H d c n) (hs : H s = none) (h : StgAt H' s T D) (hn : ∀ nd, NdOf H' s nd → H nd = none) : StgP d H' s T D :=
  ⟨h, fun z => (p.new hs).1 z.symm, fun nd x z => (p.new (hn nd x)).1 z.symm⟩
mutual
theorem Da.weak {p q : List Addr} {H : Hp} (w : ∀ a ∈ q, a ∈ p) : ∀ {v : V} {d : PyData}, Da p H v d → Da q H v d
  | _, _, .non => .non
  | _, _, .bl b => .bl b
  | _, _, .int i => .int i
  | _, _, .str z => .str z
  | _, _, .lst h n r => .lst h (fun z => n (w _ z)) (DaL.weak w r)
  | _, _, .tup h r => .tup h (DaL.weak w r)
  | _, _, .dic h n e r => .dic h (fun z => n (w _ z)) e (DaL.weak w r)
theorem DaL.weak {p q : List Addr} {H : Hp} (w : ∀ a ∈ q, a ∈ p) : ∀ {vs : List V} {ds : List PyData}, DaL p H vs ds → DaL q H vs ds
  | _, _, .nil => .nil
  | _, _, .cons h r => .cons (Da.weak w h) (DaL.weak w r)
end
/-- data of tuples and texts alone: it stays whatever lists and dicts are changed -/
def Pure (H : Hp) (v : V) (d : PyData) : Prop := ∀ S, Da S H v d
theorem Pure.keep {H H' : Hp} {v : V} {d : PyData} (h : Pure H v d) (k : Keep [] H H') : Pure H' v d := fun S => (h S).keep (KD.of0 k)
theorem Pure.keepP {H H' : Hp} {p c : Addr} {n : Nat} {v : V} {d : PyData} (h : Pure H v d) (hp : PenOk H p c n) (k : Keep [p] H H') : Pure H' v d := fun S =>
  ((h (p :: S)).keep (KD.ofD List.mem_cons_self hp k)).weak fun a ha => List.mem_cons_of_mem _ ha
theorem Pure.keepA {H H' : Hp} {f : Addr} {fx : List V} {v : V} {d : PyData} (h : Pure H v d) (hf : H f = some (.lst fx)) (k : Keep [f] H H') : Pure H' v d := fun S =>
  ((h (f :: S)).keep (KD.ofA List.mem_cons_self hf k)).weak fun a ha => List.mem_cons_of_mem _ ha
theorem Pure.kt {L : List Addr} {H H' : Hp} {v : V} {d : PyData} (h : Pure H v d) (ht : Tabs L H) (k : KT L H H') : Pure H' v d := fun S => (h S).keep (KD.ofT ht k)
theorem Pure.tup {H : Hp} {a : Addr} {xs : List V} {ds : List PyData} (t : Tup H a xs) (h : EI (Pure H) xs ds) : Pure H (.ref a) (.tuple ds) := fun S => .tup t (DaL.of (h.mono fun _ _ q => q S))
theorem Pure.str {H : Hp} (z : Str) : Pure H (.str z) (.str z) := fun _ => .str z
/-- [stands[k] for k in ..], where the stands are the fourth and k the eighth -/
theorem names_of8 {K : PySem.W.Frag} {H : Hp} {Q : VK} {as p : Addr} {T : Tn} {s : List Int} {x0 x1 x2 x4 x5 x6 x7 : Option V}
    (ht : Tup H as (T.stands.map V.str)) (hs : H p = some (.lst (s.map V.int))) (r : Ris T.stands.length s) (l : s.length ≤ 10)
    (q : ∀ L H', H L = none → Keep [] H H' → H' L = some (.lst ((nameOf T s).map V.str)) → Q (.ref L) H') :
    CU K (gName 7) tYes (tOp (uIx K) (tVar 3) (tVar 7)) [7] [x0, x1, x2, some (.ref as), x4, x5, x6, x7] Q (.ref p) H := by
  refine g_CE (RR := fun _ (x : V) (i : Int) => x = V.int i) (.inl hs) (ei_map V.int (fun _ => rfl) s) (fun _ _ _ _ h _ => h) (fun j H' acc => acc = (nameOf T (s.take j)).map V.str) (fun _ _ _ _ => rfl) ?_ ?_
  · rintro L j _ i H3 acc R R0 nL hi k3 eL rfl rfl hR _
    have := r.2 i (List.mem_of_getElem? hi)
    walk_at "sx"
    refine g_ixT (ht.keep k3 nin0) (at_lit (v := .str (T.stands.getD i.toNat "")) i.toNat (by omega) (by rw [List.getElem?_map, List.getD_eq_getElem?_getD, List.getElem?_eq_getElem (show i.toNat < T.stands.length by omega)]; rfl)) ?_
    refine hR _ _ (Keep.refl _ _) (by simp only [nameOf, List.length_map, List.length_take]; exact len_lt (by omega)) fun H5 _ => ?_
    unfold nameOf
    rw [List.take_succ, hi, List.map_append, List.map_append]
    rfl
  · rintro L H3 acc nL k3 eL rfl
    rw [List.take_length] at eL
    exact q L H3 nL k3 eL
theorem sets_ten : ∀ many : Nat, many ≤ 5 → ∀ size : Nat, size ≤ 5 → (setsN many size).length ≤ 10 := by
  have : ∀ many : Fin 6, ∀ size : Fin 6, (setsN many size).length ≤ 10 := by decide +kernel
  exact fun m hm s hs => this ⟨m, by omega⟩ ⟨s, by omega⟩
structure CovOk (T : Tn) (D : Tab) (many : Nat) (is : List Int) : Prop where
  r : Ris T.stands.length is
  c : lackOf T D (nameOf T is) = []
  l : many ≤ is.length
  u : is.length ≤ T.stands.length
def NsAt (T : Tn) (H : Hp) (x : V) (is : List Int) : Prop := ∃ p, x = .ref p ∧ Tup H p ((nameOf T is).map V.str)
theorem ns_keep {T : Tn} {S : List Addr} {H H' : Hp} {vs : List V} {cs : List (List Int)} (h : EI (NsAt T H) vs cs) (k : Keep S H H') (n : NoTup S H) : EI (NsAt T H') vs cs := h.mono fun _ _ ⟨p, e, t⟩ => ⟨p, e, t.keep k (n _ _ t)⟩
theorem ns_refs {T : Tn} {H : Hp} : ∀ {vs : List V} {cs : List (List Int)}, EI (NsAt T H) vs cs → ∀ y ∈ vs, ∃ q, y = V.ref q
  | _, _, .nil, _, h => (List.not_mem_nil h).elim
  | _, _, .cons ⟨p, e, _⟩ t, y, h => by
    rcases List.mem_cons.mp h with rfl | h
    · exact ⟨p, e⟩
    · exact ns_refs t y h
def spCover : Sp := fun vs H Q _ => ∃ (d c s : Addr) (n : Nat) (T : Tn) (D : Tab) (many : Nat) (is0 : List Int), vs = [.ref d, .ref s] ∧ n < 900000 ∧ PenOk H d c n ∧ StgAt H s T D ∧ TwOk T ∧ Fst T D many is0 ∧ 1 ≤ many ∧ many ≤ T.stands.length ∧
  ∀ p H' is, Keep [d] H H' → PenOk H' d c (n + 2) → Tup H' p ((nameOf T is).map V.str) → CovOk T D many is → Q (.ref p) H'
theorem rd_cover (K : PySem.W.Frag) : ∀ vs H Q E, spCover vs H Q E → run (t__law_covering K spFewestL spSets spLeft spDraw) (L2.start N__law_covering vs) H Q := by
  rintro _ H Q _ ⟨d, c, s, n, T, D, many, is0, rfl, hn, p, sg, ok, fs, m1, mS, q⟩
  show run (t__law_covering K spFewestL spSets spLeft spDraw) [some (.ref d), some (.ref s), none, none, none, none, none, none] H Q
  have s5 := ok.s5
  unfold t__law_covering
  walk_at "sx"
  refine ⟨s, T, D, many, is0, rfl, sg, ok, fs, m1, mS, fun fp H1 k1 tf => ?_⟩
  obtain ⟨kvs, as, b1, b2, b3⟩ := sg.st
  have ds : DGet H1 s (.str "stands") (some (.ref as)) := by
    have := DGet.k (k := (Sum.inr ("stands" : Str) : Key)) (k1 _ _ nin0 b1)
    rw [b2] at this
    exact this
  have tas := b3.keep k1 nin0
  refine ⟨s, .ref as, rfl, ds, by walk_at "sz", fun F H2 nF k2 eF => ?_⟩
  walk_at "sx"
  have lnm : (nameOf T is0).length = many := by unfold nameOf; rw [List.length_map, fs.len]
  have sg1 := sg.keep k1
  refine g_lenT (tf.keep k2 nin0) (g_lenT (tas.keep k2 nin0) ?_)
  walk_at "sx"
  rw [List.length_map, List.length_map, lnm]
  refine g_FR2 (by omega) (by omega) (by omega) (by omega) ⟨fun i σ H' => ∃ (y5 y6 : Option V) (fv : List V) (cs : List (List Int)), σ = [some (.ref d), some (.ref s), some (.ref fp), some (.ref as), some (.ref F), y5, y6, none] ∧ Keep [] H1 H' ∧ H' F = some (.lst fv) ∧ EI (NsAt T H') fv cs ∧ (∀ is ∈ cs, CovOk T D many is) ∧ cs.length ≤ 10 * i ∧ (0 < i → cs ≠ []), ⟨_, _, [], [], rfl, k2, eF, .nil, fun _ h => (List.not_mem_nil h).elim, by simp, by omega⟩, ?_, ?_⟩
  · rintro i σ H3 hi ⟨y5, y6, fv, cs, rfl, k3, eF3, ef, hcs, lcs, hne⟩
    have hi' : many + i ≤ T.stands.length := by omega
    unfold t__law_covering_b2
    walk_at "sx"
    refine g_lenT (tas.keep k3 nin0) ?_
    rw [List.length_map]
    refine ⟨T.stands.length, many + i, by rw [show (many : Int) + (i : Int) = ((many + i : Nat) : Int) by omega], s5, by omega, fun l H4 lv n4 k4 e4 f4 => ?_⟩
    have k14 := k3.trans k4
    have eF4 := k4 _ _ nin0 eF3
    have nlF : l ≠ F := (ne_of_none eF3 n4).symm
    have ten := sets_ten T.stands.length s5 (many + i) (by omega)
    have f4' : EI (fun x (t : List Int) => ∃ p, x = V.ref p ∧ p ≠ F ∧ H4 p = some (.lst (t.map V.int))) lv (setsN T.stands.length (many + i)) := by
      have ne : ∀ t ∈ setsN T.stands.length (many + i), t ≠ [] := fun t ht h => by
        have := sets_len t ht
        rw [h] at this
        simp at this
        omega
      have key : ∀ {lv : List V} {ts : List (List Int)}, EI (IlAt H4) lv ts → (∀ t ∈ ts, t ≠ []) → EI (fun x (t : List Int) => ∃ p, x = V.ref p ∧ p ≠ F ∧ H4 p = some (.lst (t.map V.int))) lv ts := by
        intro lv ts h
        induction h with
        | nil => intro _; exact .nil
        | cons h t ih =>
          intro hn
          obtain ⟨p, e, f⟩ := h
          exact .cons ⟨p, e, il_ne f (hn _ List.mem_cons_self) eF4 (ns_refs ef), f⟩ (ih fun t ht => hn t (List.mem_cons_of_mem _ ht))
      exact key f4 ne
    refine g_FEs (RR := fun H x (t : List Int) => ∃ p, x = V.ref p ∧ p ≠ F ∧ H p = some (.lst (t.map V.int))) [F] (.inl e4) (nin1 nlF) f4' (fun H' x r ⟨p, e, n, f⟩ k => ⟨p, e, n, k _ _ (nin1 n) f⟩) (fun j σ H' => ∃ (y6 : Option V) (fv : List V) (cs : List (List Int)), σ = [some (.ref d), some (.ref s), some (.ref fp), some (.ref as), some (.ref F), some (.int ((many : Int) + (i : Int))), y6, none] ∧ H' F = some (.lst fv) ∧ EI (NsAt T H') fv cs ∧ (∀ is ∈ cs, CovOk T D many is) ∧ cs.length ≤ 10 * i + j ∧ ((0 < i ∨ ∃ j', j' < j ∧ (setsN T.stands.length (many + i))[j']? = some is0) → cs ≠ [])) ⟨_, fv, cs, rfl, eF4, ns_keep ef k4 noTup0, hcs, by omega, fun h => h.elim hne fun ⟨_, h, _⟩ => by omega⟩ ?_ ?_
    · rintro j x t σ H5 hj k5 ⟨pp, rfl, npF, fpp⟩ ⟨y6, fv5, cs5, rfl, eF5, ef5, hcs5, lcs5, hne5⟩
      have htm := List.mem_of_getElem? hj
      have hjl := (List.getElem?_eq_some_iff.mp hj).1
      have rt := sets_ris htm
      have lt := sets_len t htm
      have k15 : Keep [] H1 H5 := k14.past k5 nF
      walk_at "sx"
      unfold t__law_covering_b1
      walk_at "sx"
      refine names_of8 (tas.keep k15 nin0) fpp rt (by omega) fun L H6 nL k6 eL => ?_
      have k16 := k15.trans k6
      have lnt : (nameOf T t).length = many + i := by unfold nameOf; rw [List.length_map, lt]
      refine ⟨s, L, T, D, nameOf T t, rfl, sg1.keep k16, ok.p10, eL, by omega, fun z hz => ok.sp z (name_in rt z hz), fun l2 H7 n7 k7 e7 => ?_⟩
      refine ⟨by walk_at "sz", fun e0 H8 n8 k8 f8 => eq_nilN (fun y hy => ok.nm y (lack_in y hy)) (k8 _ _ nin0 e7) f8 ⟨_, rfl, ?_⟩⟩
      have k58 := k6.trans (k7.trans k8)
      by_cases hc : lackOf T D (nameOf T t) = []
      · rw [decide_eq_true hc, if_pos rfl]
        have cov : CovOk T D many t := ⟨rt, hc, by omega, by omega⟩
        have eF8 := k58 _ _ nin0 eF5
        refine ⟨.inl ⟨rfl, _, .inl (.inl eF8)⟩, ?_⟩
        refine names_of8 (tas.keep (k15.trans k58) nin0) (k58 _ _ nin0 fpp) rt (by omega) fun L2 H9 nL2 k9 eL2 => ?_
        refine g_tupleL eL2 fun tp HA nA kA tA => ?_
        have k5A := k58.trans (k9.trans kA)
        have eFA := k5A _ _ nin0 eF5
        refine g_append eFA (by rw [ef5.length]; exact len_lt (by omega)) fun HB kB eB => ?_
        have nt := noTup1 eFA
        refine ⟨k5.trans (k5A.all.trans kB), _, _, cs5 ++ [t], rfl, eB, ?_, ?_, by simp; omega, fun _ => by simp⟩
        · exact ei_snoc (R := NsAt T HB) ⟨tp, rfl, tA.keep kB (nt _ _ tA)⟩ (ns_keep (ns_keep ef5 k5A noTup0) kB nt)
        · exact fun is h => (List.mem_append.mp h).elim (hcs5 is) fun h => by rw [List.mem_singleton.mp h]; exact cov
      · rw [decide_eq_false hc, if_neg (by decide)]
        refine ⟨k5.trans k58.all, _, fv5, cs5, rfl, k58 _ _ nin0 eF5, ns_keep ef5 k58 noTup0, hcs5, by omega, fun h => ?_⟩
        rcases h with h | ⟨j', hj', e'⟩
        · exact hne5 (.inl h)
        · by_cases hjj : j' < j
          · exact hne5 (.inr ⟨j', hjj, e'⟩)
          · have : j' = j := by omega
            subst this
            rw [hj] at e'
            rw [Option.some.inj e'] at hc
            exact absurd fs.cov hc
    · rintro σ H5 k5 ⟨y6, fv5, cs5, rfl, eF5, ef5, hcs5, lcs5, hne5⟩
      refine ⟨_, _, fv5, cs5, rfl, k14.past k5 nF, eF5, ef5, hcs5, by omega, fun _ => hne5 ?_⟩
      by_cases h0 : 0 < i
      · exact .inl h0
      · have hi0 : i = 0 := by omega
        subst hi0
        have hin : is0 ∈ setsN T.stands.length (many + 0) := ris_sets (by rw [fs.len]; rfl) fs.ris
        obtain ⟨j0, hj0, ej0⟩ := List.getElem_of_mem hin
        exact .inr ⟨j0, hj0, by rw [List.getElem?_eq_getElem hj0, ej0]⟩
  · rintro σ H3 ⟨y5, y6, fv, cs, rfl, k3, eF3, ef, hcs, lcs, hne⟩
    have hcs0 : cs ≠ [] := hne (by omega)
    have lcs' : cs.length ≤ 60 := by omega
    unfold t__law_covering_r1
    walk_at "sx"
    have p3 := (p.keep k1).keep k3
    have lfv := ef.length
    have pos : 0 < cs.length := List.length_pos_iff.mpr hcs0
    refine g_lenL eF3 ⟨d, c, _, n, rfl, by omega, by omega, by omega, p3, fun v H4 k4 p4 v0 v1 => ?_⟩
    have nFd := p3.neL eF3
    have eF4 := k4 _ _ (nin1 nFd) eF3
    obtain ⟨w, hw⟩ : ∃ w : Nat, v = w := ⟨v.toNat, by omega⟩
    subst hw
    have hwl : w < cs.length := by omega
    obtain ⟨x, hx, pq, ex, tq⟩ := ei_get ef (List.getElem?_eq_getElem hwl)
    subst ex
    have cov := hcs _ (List.getElem_mem hwl)
    generalize cs[w] = ic at tq cov
    refine g_ixL eF4 (at_lit w rfl hx) ?_
    have tq4 := tq.keep k4 (p3.noTup _ _ tq)
    have tf3 := tf.keep k3 nin0
    have tf4 := tf3.keep k4 (p3.noTup _ _ tf3)
    refine ⟨by walk_at "sz", fun l5 H5 n5 k5 e5 => ⟨d, c, 2, n + 1, rfl, by decide, by decide, by omega, p4.keep k5, fun u H6 k6 p6 u0 u1 => ?_⟩⟩
    have p5 := p4.keep k5
    have e6 := k6 _ _ (nin1 (p5.neL e5)) e5
    have k06 : Keep [d] H H6 := (k1.trans k3).all.trans (k4.trans (k5.all.trans k6))
    have tf6 := (tf4.keep k5 nin0).keep k6 (p5.noTup _ _ (tf4.keep k5 nin0))
    have tq6 := (tq4.keep k5 nin0).keep k6 (p5.noTup _ _ (tq4.keep k5 nin0))
    have hu : u = 0 ∨ u = 1 := by omega
    rcases hu with rfl | rfl
    · exact g_ixL e6 (at_lit 0 rfl rfl) (q fp H6 is0 k06 p6 tf6 ⟨fs.ris, fs.cov, by rw [fs.len]; exact Nat.le_refl _, by rw [fs.len]; exact mS⟩)
    · exact g_ixL e6 (at_lit 1 rfl rfl) (q pq H6 ic k06 p6 tq6 cov)


/-! ### trees by the law's hand -/
def tB : Nat → Nat
  | 0 => 0
  | m + 1 => 6 + 5 * tB m
def brD (q : Str × PyData) : PyData := .tuple [.str q.1, q.2]
def treeBy (T : Tn) (D : Tab) (many : Nat) : Nat → PyData → List Str → Prop
  | 0, _, _ => False
  | m + 1, d, ps => (lackOf T D ps = [] ∧ d = .tuple [.str "full"]) ∨ ∃ y ∈ lackOf T D ps, (many ≤ ps.length ∧ d = .tuple [.str "bare", .str y]) ∨
      (ps.length < many ∧ ∃ br : List (Str × PyData), d = .tuple [.str "by", .str y, .tuple (br.map brD)] ∧ (br.map (·.1)).Nodup ∧ (∀ q ∈ br, q.1 ∈ optsOf T D y) ∧ br.length = (optsOf T D y).length ∧ ∀ q ∈ br, treeBy T D many m q.2 (ps ++ [q.1]))
def spTree : Nat → Sp
  | 0 => fun _ _ _ _ => False
  | m + 1 => fun vs H Q _ => ∃ (d c s tk : Addr) (n many : Nat) (T : Tn) (D : Tab) (ps : List Str), vs = [.ref d, .ref s, .int (many : Nat), .ref tk] ∧ n + tB (m + 1) < 900000 ∧ PenOk H d c n ∧ StgP d H s T D ∧ TwOk T ∧ H tk = some (.lst (ps.map V.str)) ∧ ps.Nodup ∧ (∀ z ∈ ps, z ∈ T.stands) ∧ 6 ≤ ps.length + (m + 1) ∧
    ∀ v H' td, Keep [d] H H' → PenOk H' d c (n + tB (m + 1)) → Pure H' v td → treeBy T D many (m + 1) td ps → Q v H'
theorem rd_tree (K : PySem.W.Frag) (m : Nat) : ∀ vs H Q E, spTree (m + 1) vs H Q E → run (t__law_tree_by K spLeft spDraw spSome (spTree m)) (L2.start N__law_tree_by vs) H Q := by
  rintro _ H Q _ ⟨d, c, s, tk, n, many, T, D, ps, rfl, hn, p, sg, ok, htk, nd, hps, h6, q⟩
  show run (t__law_tree_by K spLeft spDraw spSome (spTree m)) [some (.ref d), some (.ref s), some (.int (many : Nat)), some (.ref tk), none, none, none, none, none] H Q
  have s5 := ok.s5
  have lps : ps.length ≤ T.stands.length := len_le_of nd hps
  have tBs : tB (m + 1) = 6 + 5 * tB m := rfl
  have nml : ∀ y ∈ lackOf T D ps, NmS 30 y := fun y hy => ok.nm y (lack_in y hy)
  unfold t__law_tree_by
  walk_at "sx"
  refine ⟨s, tk, T, D, ps, rfl, sg.a, ok.p10, htk, by omega, fun z hz => ok.sp z (hps z hz), fun l H1 n1 k1 e1 => ?_⟩
  walk_at "sx"
  refine ⟨by walk_at "sz", fun e0 H2 n2 k2 f2 => eq_nilN nml (k2 _ _ nin0 e1) f2 ⟨_, rfl, ?_⟩⟩
  have k12 := k1.trans k2
  have p2 := p.keep k12
  have e2 := k2 _ _ nin0 e1
  by_cases hlk : lackOf T D ps = []
  · rw [decide_eq_true hlk, if_pos rfl]
    exact ⟨by walk_at "sz", fun a H3 n3 k3 t3 => q _ H3 (.tuple [.str "full"]) (k12.trans k3).all ((p2.keep k3).mono (by omega)) (Pure.tup t3 (.cons (Pure.str _) .nil)) (.inl ⟨hlk, rfl⟩)⟩
  · rw [decide_eq_false hlk, if_neg (by decide)]
    have lpos := List.length_pos_iff.mpr hlk
    have l10 : (lackOf T D ps).length ≤ 10 := by
      have h1 : (lackOf T D ps).length ≤ (goalsOf T D).length := List.length_filter_le _ _
      have h2 : (goalsOf T D).length ≤ T.places.length := outOf_len T _ _
      have := ok.p10
      omega
    unfold t__law_tree_by_r3
    walk_at "sx"
    refine g_lenL e2 ⟨d, c, _, n, rfl, by rw [List.length_map]; omega, by rw [List.length_map]; omega, by omega, p2, fun v H3 k3 p3 v0 v1 => ?_⟩
    rw [List.length_map] at v1
    obtain ⟨w, hw⟩ : ∃ w : Nat, v = w := ⟨v.toNat, by omega⟩
    subst hw
    have hwl : w < (lackOf T D ps).length := by omega
    have e3 := k3 _ _ (nin1 (p2.neL e2)) e2
    have hyg : (lackOf T D ps)[w]? = some (lackOf T D ps)[w] := List.getElem?_eq_getElem hwl
    have hy := List.mem_of_getElem? hyg
    generalize (lackOf T D ps)[w] = y at hyg hy
    refine g_ixL e3 (at_lit w rfl (by rw [List.getElem?_map, hyg]; rfl)) ?_
    have htk2 := k12 _ _ nin0 htk
    have htk3 := k3 _ _ (nin1 (p2.neL htk2)) htk2
    refine g_lenL htk3 ?_
    walk_at "sx"
    rw [List.length_map]
    have k03 : Keep [d] H H3 := k12.all.trans k3
    by_cases hm : many ≤ ps.length
    · rw [if_pos (by omega)]
      exact ⟨by walk_at "sz", fun a H4 n4 k4 t4 => q _ H4 (.tuple [.str "bare", .str y]) (k03.trans k4.all) ((p3.keep k4).mono (by omega)) (Pure.tup t4 (.cons (Pure.str _) (.cons (Pure.str _) .nil))) (.inr ⟨y, hy, .inl ⟨hm, rfl⟩⟩)⟩
    · rw [if_neg (by omega)]
      have sg3 := (sg.keep k12).keepP p2 k3
      obtain ⟨as, das, tas⟩ := stg_get sg3.a (Keep.refl _ _)
      unfold t__law_tree_by_r2
      walk_at "sx"
      refine ⟨s, .ref as, rfl, das, ?_⟩
      refine g_CE (RR := fun _ (x : V) (y : Str) => x = V.str y) (.inr tas) (ei_map V.str (fun _ => rfl) T.stands) (fun _ _ _ _ h _ => h) (fun j H' acc => acc = ((T.stands.take j).filter fun s => decide (y ∈ nearOf T D s)).map V.str) (fun _ _ _ _ => rfl) ?_ ?_
      · rintro L j _ s' H5 acc R R0 nL hs k eL rfl rfl hR hR0
        have nx := flt_next (p := fun s => decide (y ∈ nearOf T D s)) hs
        have fl := flt_len (p := fun s => decide (y ∈ nearOf T D s)) (l := T.stands) (i := j)
        walk_at "sx"
        obtain ⟨kvs, ap, nd', gl, a1, a2, a3, a4, a5, a6, a7⟩ := (sg3.keep k).a.ob
        have dn : DGet H5 s (.str "near") (some (.ref nd')) := by
          have := DGet.k (k := (Sum.inr ("near" : Str) : Key)) a1
          rw [a3] at this
          exact this
        obtain ⟨kv, b1, b2⟩ := a6
        obtain ⟨e, v, g⟩ := b2 s' (ok.sp s' (List.mem_of_getElem? hs))
        refine ⟨s, .ref nd', rfl, dn, nd', .ref e, rfl, ?_, ?_⟩
        · have := DGet.k (k := (Sum.inr s' : Key)) b1
          rw [v] at this
          exact this
        refine g_inN g ⟨_, rfl, ?_⟩
        by_cases h : y ∈ nearOf T D s'
        · rw [decide_eq_true h, if_pos rfl]
          rw [if_pos (by simpa using h)] at nx
          refine hR _ _ (Keep.refl _ _) (by rw [List.length_map]; exact len_lt (by omega)) fun H7 k3 => ?_
          rw [nx, List.map_append]
          rfl
        · rw [decide_eq_false h, if_neg (by decide)]
          rw [if_neg (by simpa using h), List.append_nil] at nx
          refine hR0 _ (Keep.refl _ _) ?_
          rw [nx]
      rintro ol H4 acc nol k4 eol rfl
      rw [List.take_length] at eol
      have eol : H4 ol = some (.lst ((optsOf T D y).map V.str)) := eol
      walk_at "sx"
      refine ⟨by walk_at "sz", fun bl H5 nbl k5 ebl => ?_⟩
      walk_at "sx"
      have k45 := k4.trans k5
      have p5 := p3.keep k45
      have eol5 := k5 _ _ nin0 eol
      have o5 : (optsOf T D y).length ≤ 5 := Nat.le_trans opts_len s5
      refine g_lenL eol5 ⟨d, c, ol, n + 1, _, optsOf T D y, rfl, by omega, p5, eol5, by rw [List.length_map]; exact Nat.le_refl _, by omega, fun sl H6 zs nsl k6 p6 esl lzs mzs ndzs => ?_⟩
      rw [List.length_map] at lzs p6
      have ndz := ndzs (opts_nd ok)
      have nbd := p5.neL ebl
      have ebl6 := k6 _ _ (nin1 nbd) ebl
      have nsd := p6.neL esl
      have nsb : sl ≠ bl := (ne_of_none ebl nsl).symm
      have htk5 := k45 _ _ nin0 htk3
      have ntb : tk ≠ bl := ne_of_none (k4 _ _ nin0 htk3) nbl
      have ntd := p5.neL htk5
      have htk6 := k6 _ _ (nin1 ntd) htk5
      have p4 := p3.keep k4
      have sg4 := sg3.keep k4
      have dm : ∀ {X : Hp}, Keep [d, bl] H6 X → Keep [d] H4 X := fun {X} kk a o ha e => by
        have n1 : a ≠ d := fun z => ha (by rw [z]; exact List.mem_singleton.mpr rfl)
        exact kk a o (nin2 n1 (ne_of_none e nbl)) (k6 a o ha (k5 a o nin0 e))
      refine g_FEs (RR := fun _ (x : V) (y : Str) => x = V.str y) [d, bl] (.inl esl) (nin2 nsd nsb) (ei_map V.str (fun _ => rfl) zs) (fun _ _ _ h _ => h) (fun j σ H' => ∃ (y6 : Option V) (bv : List V) (br : List (Str × PyData)), σ = [some (.ref d), some (.ref s), some (.int (many : Nat)), some (.ref tk), some (.ref l), some (.str y), y6, some (.ref ol), some (.ref bl)] ∧ PenOk H' d c (n + 6 + j * tB m) ∧ H' bl = some (.lst bv) ∧ EI (fun v q => Pure H' v (brD q)) bv br ∧ br.map (·.1) = zs.take j ∧ ∀ q ∈ br, treeBy T D many m q.2 (ps ++ [q.1])) ⟨_, [], [], rfl, p6.mono (by omega), ebl6, .nil, by simp, fun _ h => (List.not_mem_nil h).elim⟩ ?_ ?_
      · rintro j _ z σ H7 hj k7 rfl ⟨y6, bv, br, rfl, p7, eb7, eb, em, et⟩
        have sg7 := sg4.keepP p4 (dm k7)
        have hjl := (List.getElem?_eq_some_iff.mp hj).1
        have hz := mzs z (List.mem_of_getElem? hj)
        obtain ⟨hz1, hz2⟩ := opt_new hy hz
        have nd' : (ps ++ [z]).Nodup := by
          rw [List.nodup_append]
          exact ⟨nd, by simp, fun a ha b hb e => hz2 (by rw [List.mem_singleton.mp hb] at e; exact e ▸ ha)⟩
        have hps' : ∀ x ∈ ps ++ [z], x ∈ T.stands := fun x hx => (List.mem_append.mp hx).elim (hps x) fun h => by rw [List.mem_singleton.mp h]; exact hz1
        have l5 := len_le_of nd' hps'
        rw [List.length_append, List.length_singleton] at l5
        have hjt : j * tB m + tB m ≤ 5 * tB m := by
          have : (j + 1) * tB m ≤ 5 * tB m := Nat.mul_le_mul (by omega) (Nat.le_refl _)
          rwa [Nat.add_mul, Nat.one_mul] at this
        have htk7 := k7 _ _ (nin2 ntd ntb) htk6
        obtain ⟨m', rfl⟩ : ∃ m', m = m' + 1 := ⟨m - 1, by omega⟩
        walk_at "sx"
        unfold t__law_tree_by_b1
        walk_at "sx"
        refine ⟨.inl ⟨rfl, _, .inl (.inl eb7)⟩, by walk_at "sz", fun l1 H8 n8 k8 e8 => ?_⟩
        refine g_addL (k8 _ _ nin0 htk7) e8 (by rw [List.length_map]; exact len_le (by simp; omega)) fun l2 H9 n9 k9 e9 => ?_
        have k79 := k8.trans k9
        have p9 := p7.keep k79
        refine ⟨d, c, s, l2, _, many, T, D, ps ++ [z], rfl, by omega, p9, sg7.keep k79, ok, by rw [e9, List.map_append]; rfl, nd', hps', by rw [List.length_append, List.length_singleton]; omega, fun v HA td kA pA hv ht => ?_⟩
        have ebA := kA _ _ (nin1 nbd) (k79 _ _ nin0 eb7)
        refine ⟨by walk_at "sz", fun tp HB nB kB tB' => ?_⟩
        have ebB := kB _ _ nin0 ebA
        have lbv : bv.length ≤ j := by
          have h1 := congrArg List.length em
          rw [List.length_map, List.length_take] at h1
          rw [eb.length]
          omega
        refine g_append ebB (by exact len_lt (by omega)) fun HC kC eC => ?_
        have pB := pA.keep kB
        have k7C : Keep [d, bl] H7 HC := (k79.all.trans (kA.wide fun x hx => by rw [List.mem_singleton.mp hx]; simp)).trans (kB.all.trans (kC.wide fun x hx => by rw [List.mem_singleton.mp hx]; simp))
        have newD : Pure HC (.ref tp) (brD (z, td)) := (Pure.tup tB' (.cons (Pure.str _) (.cons (hv.keep kB) .nil))).keepA ebB kC
        have oldD : EI (fun v q => Pure HC v (brD q)) bv br := eb.mono fun _ _ h => (((h.keep k79).keepP p9 kA).keep kB).keepA ebB kC
        refine ⟨k7.trans k7C, _, _, br ++ [(z, td)], rfl, ?_, eC, ei_snoc (R := fun v q => Pure HC v (brD q)) newD oldD, ?_, ?_⟩
        · obtain ⟨x1, x2⟩ := p4.new nbl
          exact (pB.keepL kC x1 x2).mono (by rw [Nat.add_mul, Nat.one_mul]; omega)
        · rw [List.map_append, em, List.take_succ, hj]
          rfl
        · exact fun q hq => (List.mem_append.mp hq).elim (et q) fun h => by rw [List.mem_singleton.mp h]; exact ht
      · rintro σ H7 k7 ⟨y6, bv, br, rfl, p7, eb7, eb, em, et⟩
        rw [List.take_length] at em
        have lbr : br.length = (optsOf T D y).length := by rw [← lzs, ← em, List.length_map]
        have hmul : zs.length * tB m ≤ 5 * tB m := Nat.mul_le_mul (by omega) (Nat.le_refl _)
        unfold t__law_tree_by_r1
        walk_at "sx"
        refine g_tupleL eb7 fun tb H8 n8 k8 t8 => ⟨by walk_at "sz", fun tt H9 n9 k9 t9 => ?_⟩
        have k79 := k8.trans k9
        have pm : ∀ {bv : List V} {br : List (Str × PyData)}, EI (fun v q => Pure H8 v (brD q)) bv br → EI (Pure H8) bv (br.map brD) := by
          intro bv br h
          induction h with
          | nil => exact .nil
          | cons h t ih => exact .cons h ih
        have pt : Pure H8 (.ref tb) (.tuple (br.map brD)) := Pure.tup t8 (pm (eb.mono fun _ _ h => h.keep k8))
        refine q _ H9 (.tuple [.str "by", .str y, .tuple (br.map brD)]) ((k03.trans k4.all).trans ((dm k7).trans k79.all)) ((p7.keep k79).mono (by omega)) (Pure.tup t9 (.cons (Pure.str _) (.cons (Pure.str _) (.cons (pt.keep k9) .nil)))) (.inr ⟨y, hy, .inr ⟨by omega, br, rfl, by rw [em]; exact ndz, fun x hx => mzs _ ?_, lbr, et⟩⟩)
        rw [← em]
        exact List.mem_map.mpr ⟨x, hx, rfl⟩


/-! ### such trees show the fewest -/
section
variable {T : Tn} {D : Tab} {many : Nat}
theorem tree_few (ok : TwOk T) : ∀ (m m' : Nat) (d : PyData) (ps : List Str), m ≤ m' → treeBy T D many m d ps → fewT m' d
  | 0, _, _, _, _, h => h.elim
  | m + 1, 0, _, _, h, _ => absurd h (by omega)
  | m + 1, m' + 1, d, ps, hm, h => by
    intro bs hbs
    rcases h with ⟨_, rfl⟩ | ⟨y, hy, ⟨_, rfl⟩ | ⟨_, br, rfl, _, _, hl, ht⟩⟩
    · cases hbs
    · cases hbs
    · have e : br.map brD = bs := Option.some.inj hbs
      subst e
      have h1 : (optsOf T D y).length ≤ T.stands.length := opts_len
      have h2 := ok.s5
      refine ⟨by rw [List.length_map, hl]; omega, fun b hb => ?_⟩
      obtain ⟨q, hq, rfl⟩ := List.mem_map.mp hb
      exact tree_few ok m m' q.2 _ (by omega) (ht q hq)
theorem head_br (q : Str × PyData) : headD (brD q) = some (encS q.1) := rfl
theorem tree_shows (ok : TwOk T) {is : List Int} (fs : Fst T D many is) : ∀ (m m' : Nat) (d : PyData) (ps : List Str), m ≤ m' → ps.Nodup → (∀ z ∈ ps, z ∈ T.stands) → ps.length ≤ many → treeBy T D many m d ps → showP T D many is m' d ps = true
  | 0, _, _, _, _, _, _, _, h => h.elim
  | m + 1, 0, _, _, h, _, _, _, _ => absurd h (by omega)
  | m + 1, m' + 1, d, ps, hm, nd, hps, hl, h => by
    rw [showP_eq]
    rcases h with ⟨hlk, rfl⟩ | ⟨y, hy, ⟨hle, rfl⟩ | ⟨hlt, br, rfl, ndb, inb, lb, ht⟩⟩
    · rw [if_pos (by rfl)]
      unfold fullP
      have h1 := fs.less ps nd hps hlk
      have h2 := fs.fst ps nd hps hlk (by omega)
      rw [decide_eq_true (show ps.length = many by omega), decide_eq_true hlk, ltI_eq, decide_eq_false h2]
      rfl
    · have hb : nodeB "bare" 2 (.tuple [.str "bare", .str y]) = true := by rfl
      rw [if_neg (by rw [node_not2 hb (.inr (by decide))]; decide), if_pos hb]
      unfold bareP
      have : inP (lackOf T D ps) (argD 1 (.tuple [.str "bare", .str y])) = true := decide_eq_true hy
      rw [this, decide_eq_true (show ps.length = many by omega)]
      rfl
    · have hb : nodeB "by" 3 (.tuple [.str "by", .str y, .tuple (br.map brD)]) = true := by rfl
      rw [if_neg (by rw [node_not2 hb (.inr (by decide))]; decide), if_neg (by rw [node_not2 hb (.inr (by decide))]; decide), if_pos hb]
      unfold byP
      have h1 : inP (lackOf T D ps) (argD 1 (.tuple [.str "by", .str y, .tuple (br.map brD)])) = true := decide_eq_true hy
      rw [h1, decide_eq_true hlt, Bool.true_and, Bool.true_and]
      show (justB encS (br.map brD) (optsOf T D y) && (br.map brD).all (goB encS (optsOf T D y) _)) = true
      have hin : ∀ z ∈ br.map (·.1), z ∈ optsOf T D y := fun z hz => by
        obtain ⟨q, hq, rfl⟩ := List.mem_map.mp hz
        exact inb q hq
      have hj : justB encS (br.map brD) (optsOf T D y) = true := by
        rw [just_iff (opts_nd ok) encS_inj, List.length_map, decide_eq_true lb, Bool.true_and, List.all_eq_true]
        intro o ho
        have := all_in ndb (opts_nd ok) hin (by rw [List.length_map]; omega) o ho
        obtain ⟨q, hq, rfl⟩ := List.mem_map.mp this
        exact List.any_eq_true.mpr ⟨brD q, List.mem_map.mpr ⟨q, hq, rfl⟩, decide_eq_true (head_br q)⟩
      rw [hj, Bool.true_and, List.all_eq_true]
      intro b hb'
      obtain ⟨q, hq, rfl⟩ := List.mem_map.mp hb'
      have hqo := inb q hq
      obtain ⟨o, ho⟩ := Option.isSome_iff_exists.mp (pick_is (enc := encS) (b := brD q) hqo (head_br q))
      obtain ⟨_, h3⟩ := pick_some ho
      rw [head_br] at h3
      have e := encS_inj _ _ (Option.some.inj h3)
      subst e
      obtain ⟨hz1, hz2⟩ := opt_new hy hqo
      unfold goB
      rw [ho]
      refine tree_shows ok fs m m' q.2 (ps ++ [q.1]) (by omega) ?_ ?_ (by rw [List.length_append, List.length_singleton]; omega) (ht q hq)
      · rw [List.nodup_append]
        exact ⟨nd, by simp, fun a ha b hb e => hz2 (by rw [List.mem_singleton.mp hb] at e; exact e ▸ ha)⟩
      · exact fun x hx => (List.mem_append.mp hx).elim (hps x) fun h => by rw [List.mem_singleton.mp h]; exact hz1
end


theorem Tabs.keepD {L : List Addr} {H H' : Hp} {p : Addr} (h : Tabs L H) (k : Keep [p] H H') (n : p ∉ L) : Tabs L H' := fun b hb => let ⟨ps, e, t⟩ := h b hb; ⟨ps, k _ _ (nin1 fun z => n (z ▸ hb)) e, t⟩
theorem PenOk.kt {L : List Addr} {H H' : Hp} {d c : Addr} {n : Nat} (p : PenOk H d c n) (ht : Tabs L H) (k : KT L H H') : PenOk H' d c n := by
  obtain ⟨cells, a, b, q, h⟩ := p
  exact ⟨cells, a, b, ⟨k.k _ _ (ht.dK q.d) q.d, k.k _ _ (ht.lst q.c) q.c, q.l, q.a0, q.l0⟩, h⟩
theorem PenOk.ninL {L : List Addr} {H : Hp} {d c : Addr} {n : Nat} (p : PenOk H d c n) (ht : Tabs L H) : d ∉ L := by
  obtain ⟨cells, a, b, q, h⟩ := p
  exact ht.dK q.d
theorem near_self {T : Tn} {D : Tab} {b : Int} {z : Str} (hz : z ∈ T.places) (r0 : 0 ≤ T.reach) (hb : ∀ g, g < T.places.length → Bd g b (D g)) : z ∈ nearOf T D z := by
  have hl := pIx_lt hz
  refine List.mem_map.mpr ⟨pIx T.places z, List.mem_filter.mpr ⟨List.mem_range.mpr hl, ?_⟩, get_pIx hz⟩
  rw [(hb _ hl).2]
  exact decide_eq_true r0
theorem lack_some {T : Tn} {D : Tab} {b : Int} (ok : TwOk T) (hb : ∀ g, g < T.places.length → Bd g b (D g)) : lackOf T D [] ≠ [] := fun e => by
  have s1 := ok.s1
  have hz := List.getElem_mem (show 0 < T.stands.length by omega)
  generalize T.stands[0] = z at hz
  have hp := ok.sp z hz
  have hn := near_self hp ok.re0 hb
  have hb' : z ∉ bareOf T D T.stands := fun h => (of_decide_eq_true (List.mem_filter.mp h).2) (List.mem_flatMap.mpr ⟨z, hz, hn⟩)
  have hg : z ∈ goalsOf T D := List.mem_filter.mpr ⟨by rw [List.take_length]; exact hp, decide_eq_true hb'⟩
  have : z ∈ lackOf T D [] := lack_iff.mpr ⟨hg, by simp⟩
  rw [e] at this
  cases this
theorem least_n {P : Nat → Prop} (dec : ∀ k, P k ∨ ¬ P k) : ∀ n, P n → ∃ m, m ≤ n ∧ P m ∧ ∀ k, k < m → ¬ P k
  | 0, h => ⟨0, Nat.le_refl _, h, fun _ h => by omega⟩
  | n + 1, h => by
    rcases Classical.em (∃ k, k ≤ n ∧ P k) with ⟨k, hk, pk⟩ | hno
    · clear h
      induction n generalizing k with
      | zero =>
        have : k = 0 := by omega
        subst this
        exact ⟨0, by omega, pk, fun _ h => by omega⟩
      | succ n ih =>
        rcases Classical.em (∃ j, j ≤ n ∧ P j) with ⟨j, hj, pj⟩ | hno
        · obtain ⟨m, h1, h2⟩ := ih j hj pj
          exact ⟨m, by omega, h2⟩
        · exact ⟨k, by omega, pk, fun j hj pj => hno ⟨j, by omega, pj⟩⟩
    · exact ⟨n + 1, Nat.le_refl _, h, fun k hk pk => hno ⟨k, by omega, pk⟩⟩
theorem fst_some {T : Tn} {D : Tab} (ok : TwOk T) (hD : ∀ g, g < T.places.length → Bd g 1000000 (D g)) : ∃ many is, Fst T D many is ∧ 1 ≤ many ∧ many ≤ T.stands.length := by
  have s5 := ok.s5
  obtain ⟨is, S', e, _⟩ := sought_comp (T := T) (D := D) (many := T.stands.length) 7 [] T.stands List.nodup_nil ok.nds (fun _ h => (List.not_mem_nil h).elim) (fun _ h => h) stands_cover (Nat.le_refl _) (by simp; omega)
  obtain ⟨m, hm, ⟨is', he⟩, hno⟩ := least_n (P := fun k => ∃ is, (soughtN T D k 7 []).1 = some is) (fun k => Classical.em _) T.stands.length ⟨is, e⟩
  have fs := fst_of (fun k hk => by
    cases h : (soughtN T D k 7 []).1 with
    | none => rfl
    | some is => exact absurd ⟨is, h⟩ (hno k hk)) (by omega) he
  refine ⟨m, is', fs, Nat.one_le_iff_ne_zero.mpr fun e => ?_, hm⟩
  have h0 := fs.cov
  have hl := fs.len
  rw [e] at hl
  rw [List.length_eq_zero_iff.mp hl] at h0
  exact lack_some ok hD h0
/-! ### the law, whole -/
theorem KD.ofL {p L : List Addr} {H H' : Hp} (ht : Tabs L H) (k : Keep L H H') : KD p H H' := ⟨fun _ _ h _ => k _ _ (ht.lst h) h, fun a xs h => h.keep k (ht.noTup a xs h), fun _ _ h _ => k _ _ (ht.dK h) h⟩
def AskR (T : Tn) (D : Tab) (H : Hp) (x : V) (r : List Int × PyData) : Prop := ∃ p pt v, x = .ref p ∧ Tup H p [.ref pt, v, .bl (showP T D r.1.length r.1 7 r.2 [])] ∧ Tup H pt ((nameOf T r.1).map V.str) ∧ Pure H v r.2
section
variable {T : Tn} {D : Tab} {H H' : Hp} {x : V} {r : List Int × PyData}
theorem AskR.keep (h : AskR T D H x r) (k : Keep [] H H') : AskR T D H' x r := let ⟨p, pt, v, e, t1, t2, u⟩ := h; ⟨p, pt, v, e, t1.keep k nin0, t2.keep k nin0, u.keep k⟩
theorem AskR.keepP {d c : Addr} {n : Nat} (h : AskR T D H x r) (hp : PenOk H d c n) (k : Keep [d] H H') : AskR T D H' x r := let ⟨p, pt, v, e, t1, t2, u⟩ := h; ⟨p, pt, v, e, t1.keep k (hp.noTup _ _ t1), t2.keep k (hp.noTup _ _ t2), u.keepP hp k⟩
theorem AskR.keepA {f : Addr} {fx : List V} (h : AskR T D H x r) (hf : H f = some (.lst fx)) (k : Keep [f] H H') : AskR T D H' x r := let ⟨p, pt, v, e, t1, t2, u⟩ := h; ⟨p, pt, v, e, t1.keep k (noTup1 hf _ _ t1), t2.keep k (noTup1 hf _ _ t2), u.keepA hf k⟩
theorem AskR.keepL {L : List Addr} (h : AskR T D H x r) (ht : Tabs L H) (k : Keep L H H') : AskR T D H' x r := let ⟨p, pt, v, e, t1, t2, u⟩ := h; ⟨p, pt, v, e, t1.keep k (ht.noTup _ _ t1), t2.keep k (ht.noTup _ _ t2), fun S => (u S).keep (KD.ofL ht k)⟩
end
structure AskOk (T : Tn) (D : Tab) (e : List Int × PyData) : Prop where
  r : Ris T.stands.length e.1
  u : e.1.length ≤ T.stands.length
  t : ∃ mm, treeBy T D mm 6 e.2 []
structure LS (L : List Addr) (H : Hp) (d c t ch s : Addr) (T : Tn) (D : Tab) : Prop where
  tb : Tabs L H
  t : TnAt H t T
  c : ChAt H ch T.places.length D
  s : StgP d H s T D
section
variable {L : List Addr} {H H' : Hp} {d c t ch s : Addr} {T : Tn} {D : Tab} {n : Nat}
theorem LS.keep (h : LS L H d c t ch s T D) (k : Keep [] H H') : LS L H' d c t ch s T D := ⟨h.tb.keep0 k, h.t.keep k noTup0, h.c.keep k, h.s.keep k⟩
theorem LS.keepP (h : LS L H d c t ch s T D) (p : PenOk H d c n) (k : Keep [d] H H') : LS L H' d c t ch s T D := ⟨h.tb.keepD k (p.ninL h.tb), h.t.keep k p.noTup, h.c.keepS k p.noTup, h.s.keepP p k⟩
theorem LS.kt (h : LS L H d c t ch s T D) (k : KT L H H') : LS L H' d c t ch s T D := ⟨k.t h.tb, h.t.keep k.k h.tb.noTup, h.c.keepS k.k h.tb.noTup, h.s.kt h.tb k⟩
end
def spLaw (K : PySem.W.Frag) (L : List Addr) : Sp := fun vs H Q _ => ∃ (a : Addr) (ns : List Int), vs = [.ref a] ∧ Scr K H a (ns.map V.int) ∧ ns.length ≤ 63 ∧ Tabs L H ∧ ∀ H', Q (.bl true) H'
theorem rd_law (K : PySem.W.Frag) {L : List Addr} : ∀ vs H Q E, spLaw K L vs H Q E → run (t_law K (spHeld K) spTownH spChartH spShutH spStage spCover spFewestL spDraw (spTree 6) (spShowsL K 7) (spShowsPosts K L)) (L2.start N_law vs) H Q := by
  rintro _ H Q _ ⟨a, ns, rfl, hS, hl, htb, q⟩
  show run (t_law K (spHeld K) spTownH spChartH spShutH spStage spCover spFewestL spDraw (spTree 6) (spShowsL K 7) (spShowsPosts K L)) [some (.ref a), none, none, none, none, none, none, none, none, none, none] H Q
  unfold t_law
  walk_at "sx"
  refine ⟨a, ns, rfl, hS, hl, fun d c H1 nd nc k1 p1 => ?_⟩
  have tb1 := htb.keep0 k1
  walk_at "sx"
  refine ⟨d, c, 0, rfl, by decide, p1, fun t H2 T k2 p2 hT ok => ?_⟩
  have tb2 := tb1.keepD k2 (p1.ninL tb1)
  walk_at "sx"
  refine ⟨d, c, t, _, T, rfl, by omega, p2, hT, ok, fun sh H3 zs k3 p3 tsh => ?_⟩
  have tb3 := tb2.keepD k3 (p2.ninL tb2)
  have hT3 := hT.keep k3 p2.noTup
  refine ⟨t, sh, T, zs, rfl, hT3, ok, tsh, fun ch H4 D k4 hC hD => ?_⟩
  walk_at "sx"
  have p4 := p3.keep k4
  have hT4 := hT3.keep k4 noTup0
  have s5 := ok.s5
  refine ⟨t, ch, T, D, rfl, hT4, ok.p10, hC, by omega, ok.sp, fun s H5 ns5 k5 sg hnd => ?_⟩
  have p5 := p4.keep k5
  have ls5 : LS L H5 d c t ch s T D := ⟨(tb3.keep0 k4).keep0 k5, hT4.keep k5 noTup0, hC.keep k5, StgP.of p4 ns5 sg hnd⟩
  walk_at "sx"
  refine ⟨by walk_at "sz", fun f H6 nf k6 ef => ?_⟩
  walk_at "sx"
  have p6 := p5.keep k6
  have ls6 := ls5.keep k6
  obtain ⟨fw, is0, fs, m1, mS⟩ := fst_some ok hD
  have nfd := p6.neL ef
  have dm : ∀ {X : Hp}, Keep [d, f] H6 X → Keep [d] H5 X := fun {X} kk a o ha e => by
    have n1 : a ≠ d := fun z => ha (by rw [z]; exact List.mem_singleton.mpr rfl)
    exact kk a o (nin2 n1 (ne_of_none e nf)) (k6 a o nin0 e)
  have t7 : tB 6 = 23436 := rfl
  refine g_FR1 (by omega) (by omega) ⟨fun i σ H' => ∃ (y6 y7 y8 y9 : Option V) (av : List V) (rs : List (List Int × PyData)), σ = [some (.ref a), some (.ref d), some (.ref t), some (.ref ch), some (.ref s), some (.ref f), y6, y7, y8, y9, none] ∧ Keep [d, f] H6 H' ∧ PenOk H' d c (2000 + i * 50000) ∧ H' f = some (.lst av) ∧ EI (AskR T D H') av rs ∧ (∀ r ∈ rs, AskOk T D r) ∧ rs.length = 2 * i ∧ (0 < i → ∃ td, rs[0]? = some (is0, td) ∧ treeBy T D fw 6 td []), ⟨_, _, _, _, [], [], rfl, Keep.refl _ _, p6.mono (by omega), ef, .nil, fun _ h => (List.not_mem_nil h).elim, rfl, fun h => by omega⟩, ?_, ?_⟩
  · rintro i σ H7 hi ⟨y6, y7, y8, y9, av, rs, rfl, k7, p7, ef7, er, rok, lrs, hfst⟩
    have ls7 := ls5.keepP p5 (dm k7)
    unfold t_law_b2
    walk_at "sx"
    have sg7 := ls7.s.a
    refine ⟨s, T, D, fw, is0, rfl, sg7, ok, fs, m1, mS, fun fp H8 k8 tf => ?_⟩
    have p8 := p7.keep k8
    refine ⟨d, c, s, _, T, D, fw, is0, rfl, by omega, p8, sg7.keep k8, ok, fs, m1, mS, fun cp H9 ic k9 p9 tc cov => ?_⟩
    have tf9 := tf.keep k9 (p8.noTup _ _ tf)
    refine ⟨by walk_at "sz", fun l0 HA nA kA eA => ?_⟩
    have pA := p9.keep kA
    obtain ⟨pt, is, hat, tp, hr, hu, hfirst⟩ : ∃ pt is, atI [V.ref fp, .ref cp] (if (0 : Int) < (i : Int) then 1 else 0) = some (.ref pt) ∧ Tup HA pt ((nameOf T is).map V.str) ∧ Ris T.stands.length is ∧ is.length ≤ T.stands.length ∧ (i = 0 → is = is0) := by
      by_cases h0 : i = 0
      · subst h0
        exact ⟨fp, is0, rfl, tf9.keep kA nin0, fs.ris, by rw [fs.len]; exact mS, fun _ => rfl⟩
      · refine ⟨cp, ic, ?_, tc.keep kA nin0, cov.r, cov.u, fun h => absurd h h0⟩
        rw [if_pos (by omega)]
        rfl
    refine g_ixL eA hat ?_
    refine g_lenT tp (g_lenT tp ⟨d, c, 3, _, rfl, by decide, by decide, by omega, pA, fun u HB kB pB u0 u1 => ?_⟩)
    have lnm : ((nameOf T is).map V.str).length = is.length := by unfold nameOf; rw [List.length_map, List.length_map]
    rw [lnm]
    walk_at "sx"
    obtain ⟨mm, hmm⟩ : ∃ mm : Nat, (if (is.length : Int) + u - 1 > 0 then (is.length : Int) + u - 1 else 0) = (mm : Int) := by
      refine ⟨(if (is.length : Int) + u - 1 > 0 then (is.length : Int) + u - 1 else 0).toNat, ?_⟩
      split <;> omega
    rw [hmm]
    refine ⟨by walk_at "sz", fun tt HC nC kC tC => ?_⟩
    have pC := pB.keep kC
    have k7C : Keep [d] H7 HC := k8.all.trans (k9.trans (kA.all.trans (kB.trans kC.all)))
    have w7C : Keep [d, f] H7 HC := k7C.wide fun x hx => by rw [List.mem_singleton.mp hx]; simp
    have efC := k7C _ _ (nin1 nfd) ef7
    have tpC := (tp.keep kB (pA.noTup _ _ tp)).keep kC nin0
    have erC : EI (AskR T D HC) av rs := er.mono fun _ _ h => ((((h.keep k8).keepP p8 k9).keep kA).keepP pA kB).keep kC
    have htt : tt ∉ [d, f] := nin2 (fun z => by obtain ⟨_, x, _⟩ := tC; rw [z] at x; obtain ⟨_, _, _, pp, _⟩ := pC; rw [pp.d] at x; cases x) (fun z => by obtain ⟨_, x, _⟩ := tC; rw [z, efC] at x; cases x)
    refine g_FEs (RR := fun _ (x : V) (k : Nat) => x = V.int (k : Int)) [d, f] (.inr tC) htt (.cons (b := is.length) rfl (.cons (b := mm) rfl .nil)) (fun _ _ _ h _ => h) (fun j σ H' => ∃ (y8 y9 : Option V) (av : List V) (rs : List (List Int × PyData)), σ = [some (.ref a), some (.ref d), some (.ref t), some (.ref ch), some (.ref s), some (.ref f), some (.int (i : Int)), some (.ref pt), y8, y9, none] ∧ PenOk H' d c (2000 + i * 50000 + 3 + j * 24000) ∧ H' f = some (.lst av) ∧ EI (AskR T D H') av rs ∧ (∀ r ∈ rs, AskOk T D r) ∧ rs.length = 2 * i + j ∧ (0 < i ∨ 0 < j → ∃ td, rs[0]? = some (is0, td) ∧ treeBy T D fw 6 td [])) ⟨_, _, av, rs, rfl, pC.mono (by omega), efC, erC, rok, lrs, fun h => hfst (by omega)⟩ ?_ ?_
    · rintro j _ k σ HD hj kD rfl ⟨z8, z9, av2, rs2, rfl, pD, efD, erD, rok2, lrs2, hfst2⟩
      have hj2 : j < 2 := (List.getElem?_eq_some_iff.mp hj).1
      have k6D := (k7.trans w7C).trans kD
      have sgD := ls5.s.keepP p5 (dm k6D)
      walk_at "sx"
      unfold t_law_b1
      walk_at "sx"
      refine ⟨by walk_at "sz", fun e1 HE nE kE eE => ?_⟩
      have pE := pD.keep kE
      have tpE : Tup HE pt ((nameOf T is).map V.str) := by
        have npt : pt ∉ [d, f] := nin2 (fun z => by obtain ⟨_, x, _⟩ := tpC; rw [z] at x; obtain ⟨_, _, _, pp, _⟩ := pC; rw [pp.d] at x; cases x) (fun z => by obtain ⟨_, x, _⟩ := tpC; rw [z, efC] at x; cases x)
        exact (tpC.keep kD npt).keep kE nin0
      refine ⟨d, c, s, e1, _, k, T, D, [], rfl, by rw [t7]; omega, pE, sgD.keep kE, ok, eE, List.nodup_nil, fun _ h => (List.not_mem_nil h).elim, by simp, fun v HF td kF pF hv ht => ?_⟩
      have efF := kF _ _ (nin1 nfd) (kE _ _ nin0 efD)
      walk_at "sx"
      refine ⟨.inl ⟨rfl, _, .inl (.inl efF)⟩, by walk_at "sz", fun e2 HG nG kG eG => ?_⟩
      have sgG := ((sgD.keep kE).keepP pE kF).keep kG
      have tpG := (tpE.keep kF (pE.noTup _ _ tpE)).keep kG nin0
      refine ⟨[], s, pt, e2, v, T, D, is, [], td, rfl, sgG.a, ok, hr, by omega, tpG, (hv.keep kG) [], tree_few ok 6 7 td [] (by decide) ht, eG, fun _ h => (List.not_mem_nil h).elim, by simp, by simp; omega, fun HH kH => ⟨by walk_at "sz", fun tq HI nI kI tI => ?_⟩⟩
      have kGI := kG.trans (kH.trans kI)
      have efI := kGI _ _ nin0 efF
      refine g_append efI (by rw [erD.length]; exact len_lt (by omega)) fun HJ kJ eJ => ?_
      have kF0 : Keep [d] HD HI := kE.all.trans (kF.trans kGI.all)
      have kDJ : Keep [d, f] HD HJ := (kF0.wide fun x hx => by rw [List.mem_singleton.mp hx]; simp).trans (kJ.wide fun x hx => by rw [List.mem_singleton.mp hx]; simp)
      have old : EI (AskR T D HJ) av2 rs2 := erD.mono fun _ _ h => (((h.keep kE).keepP pE kF).keep kGI).keepA efI kJ
      have new : AskR T D HJ (.ref tq) (is, td) := ⟨tq, pt, v, rfl, tI.keep kJ (noTup1 efI _ _ tI), (tpG.keep (kH.trans kI) nin0).keep kJ (noTup1 efI _ _ (tpG.keep (kH.trans kI) nin0)), (hv.keep kGI).keepA efI kJ⟩
      have pI := pF.keep kGI
      refine ⟨kD.trans kDJ, _, _, _, rs2 ++ [(is, td)], rfl, ?_, eJ, ei_snoc (R := AskR T D HJ) new old, ?_, by rw [List.length_append, List.length_singleton]; omega, fun _ => ?_⟩
      · obtain ⟨x1, x2⟩ := p5.new nf
        exact (pI.keepL kJ x1 x2).mono (by rw [t7]; omega)
      · exact fun r h => (List.mem_append.mp h).elim (rok2 r) fun h => by rw [List.mem_singleton.mp h]; exact ⟨hr, hu, ⟨_, ht⟩⟩
      · by_cases h0 : 0 < i ∨ 0 < j
        · obtain ⟨td0, g1, g2⟩ := hfst2 h0
          exact ⟨td0, by rw [List.getElem?_append_left (List.getElem?_eq_some_iff.mp g1).1]; exact g1, g2⟩
        · have hi0 : i = 0 := by omega
          have hj0 : j = 0 := by omega
          subst hj0
          have hk : k = is.length := (Option.some.inj hj).symm
          have hnil : rs2 = [] := List.length_eq_zero_iff.mp (by omega)
          rw [hk, hfirst hi0, fs.len] at ht
          rw [hfirst hi0]
          exact ⟨td, by rw [hnil]; rfl, ht⟩
    · rintro σ HD kD ⟨z8, z9, av2, rs2, rfl, pD, efD, erD, rok2, lrs2, hfst2⟩
      exact ⟨_, _, _, _, av2, rs2, rfl, (k7.trans w7C).trans kD, pD.mono (by simp; omega), efD, erD, rok2, by simp at lrs2; omega, fun _ => hfst2 (.inr (by simp))⟩
  · rintro σ H7 ⟨y6, y7, y8, y9, av, rs, rfl, k7, p7, ef7, er, rok, lrs, hfst⟩
    have ls7 := ls5.keepP p5 (dm k7)
    obtain ⟨td0, g0, ht0⟩ := hfst (by decide)
    unfold t_law_r3
    walk_at "sx"
    obtain ⟨x0, hx0, q0, qt0, v0, rfl, tq0, _, _⟩ := ei_get er g0
    have e0 : showP T D is0.length is0 7 td0 [] = true := by
      rw [fs.len]
      exact tree_shows ok fs 6 7 td0 [] (by decide) List.nodup_nil (fun _ h => (List.not_mem_nil h).elim) (Nat.zero_le _) ht0
    refine g_ixL ef7 (at_lit 0 rfl hx0) (g_ixT tq0 (at_lit 2 rfl rfl) ?_)
    rw [show showP T D (is0, td0).1.length (is0, td0).1 7 (is0, td0).2 [] = true from e0]
    refine ⟨true, true, rfl, rfl, false, rfl, ?_⟩
    rw [if_neg (by decide)]
    unfold t_law_r2
    walk_at "sx"
    refine g_slL (lst_sq ef7) fun sl H8 n8 k8 e8 => ?_
    have e8 : H8 sl = some (.lst (av.take 1)) := by
      have := cut_upto (xs := av) 1
      rw [← this]
      exact e8
    have lav := er.length
    refine g_addL (k8 _ _ nin0 ef7) e8 (by rw [List.length_take]; exact len_le (by omega)) fun al H9 n9 k9 e9 => ?_
    have k79 := k8.trans k9
    have ls9 := ls7.keep k79
    have er9 : EI (AskR T D H9) (av ++ av.take 1) (rs ++ rs.take 1) := by
      have e := er.mono fun _ _ h => h.keep k79
      have tk : ∀ {xs : List V} {rs : List (List Int × PyData)} (n : Nat), EI (AskR T D H9) xs rs → EI (AskR T D H9) (xs.take n) (rs.take n) := by
        intro xs rs n h
        induction h generalizing n with
        | nil => rw [List.take_nil, List.take_nil]; exact .nil
        | cons h t ih =>
          cases n with
          | zero => exact .nil
          | succ n => exact .cons h (ih n)
      exact ei_app e (tk 1 e)
    have rok9 : ∀ r ∈ rs ++ rs.take 1, AskOk T D r := fun r h => (List.mem_append.mp h).elim (rok r) fun h => rok r (List.mem_of_mem_take h)
    refine g_FEs (RR := AskR T D) L (.inl e9) (ls9.tb.lst e9) er9 (fun H' x r h k => h.keepL ls9.tb k) (fun j σ H' => ∃ (z6 z7 z9 z10 : Option V), σ = [some (.ref a), some (.ref d), some (.ref t), some (.ref ch), some (.ref s), some (.ref f), z6, z7, y8, z9, z10] ∧ Tabs L H') ⟨_, _, _, _, rfl, ls9.tb⟩ ?_ ?_
    · rintro j x r σ HA hj kA ⟨qp, qt, v, rfl, t1, t2, pv⟩ ⟨z6, z7, z9, z10, rfl, tbA⟩
      obtain ⟨o1, o2, mm, o3⟩ := rok9 r (List.mem_of_getElem? hj)
      have lsA := ls9.kt ⟨kA, fun _ => tbA⟩
      refine g_tup t1 rfl ?_
      walk_at "sx"
      refine ⟨_, _, rfl, _, _, rfl, _, _, rfl, rfl, ?_⟩
      unfold t_law_b3
      walk_at "sx"
      have lnm : (nameOf T r.1).length = r.1.length := by unfold nameOf; rw [List.length_map]
      have hbD : ∀ b ∈ L, ∃ o, HA b = some o := fun b hb => let ⟨ps, e, _⟩ := tbA b hb; ⟨_, e⟩
      refine g_CR1 (S := L) hbD (by omega) (by omega) ⟨fun i H' acc => acc = (List.replicate i (showP T D r.1.length r.1 7 r.2 [])).map V.bl ∧ Tabs L H', fun D0 H2 _ k => ⟨rfl, tbA.keep0 k⟩, ?_, ?_⟩
      · rintro D0 i HB acc R R0 nD hi kB eD ⟨rfl, tbB⟩ hR _
        have kt : KT L HA HB := ⟨kB, fun _ => tbB⟩
        have lsB := lsA.kt kt
        walk_at "sx"
        refine ⟨[], t, ch, qt, T, D, nameOf T r.1, v, r.2, rfl, lsB.t, ok, lsB.c, t2.kt tbA kt, name_in o1, by omega, (pv.kt tbA kt) [], tbB, fun HC kC => ?_⟩
        rw [lnm, ord_name ok.nds o1]
        refine hR _ _ kC.k (by rw [List.length_map, List.length_replicate]; exact len_lt (by omega)) fun HD kD => ⟨?_, (kC.t tbB).keepD kD (tbA.ninN nD)⟩
        rw [List.replicate_succ', List.map_append]
        rfl
      · rintro D0 HB acc nD kB eD ⟨rfl, tbB⟩
        refine ⟨by walk_at "sz", fun l2 HC nC kC eC => ?_⟩
        generalize hb : showP T D r.1.length r.1 7 r.2 [] = b at eD eC
        have eD' : HB D0 = some (.lst [V.bl b, V.bl b]) := eD
        have sh : SeqAt.shaped (.list [.bool b, .bool b]) = true := by cases b <;> decide +kernel
        refine .inr ⟨.list [.bool b, .bool b], .list [.bool b, .bool b], .lst (lst_sq (kC _ _ nin0 eD')) (.cons (.bl b) (.cons (.bl b) .nil)), .lst (lst_sq eC) (.cons (.bl b) (.cons (.bl b) .nil)), sh, sh, ?_⟩
        have ee : PyData.eqv (.list [.bool b, .bool b]) (.list [.bool b, .bool b]) = true := by cases b <;> decide +kernel
        rw [ee]
        refine ⟨false, rfl, ?_⟩
        rw [if_neg (by decide)]
        exact ⟨kA.trans (kB.trans kC.all), _, _, _, _, rfl, tbB.keep0 kC⟩
    · rintro σ HA kA ⟨z6, z7, z9, z10, rfl, tbA⟩
      unfold t_law_r1
      walk_at "sx"
      exact q _


theorem all_mk {P q : Program} {w : World} {K : PySem.W.Frag} {h : Heap} {mg : Str → Option Value} {fa : Addr} (X : K.In h) (G : h.Ns mainGlobals mg) (hfa : mg "law" = some (.ref fa))
    {c_Near : Addr} (ad_Near : PySem.W.nsIn K mainGlobals "Near" = some (some (.ref c_Near))) (pg_Near : PySem.W.plainGet K c_Near Str.empty = true) (hd_Near : PySem.W.hasDictIn K c_Near = true) (po_Near : PySem.W.plainOver K c_Near = true)
    (sa_Near : PySem.W.findIn K (.ref c_Near) "__setattr__" = some (some (.builtin "object.__setattr__"))) (mk_Near : PySem.W.makesIn K c_Near = true) (kc_Near : PySem.W.keepIn K (.ref c_Near) = true)
    (na_Near_goals : PySem.W.findIn K (.ref c_Near) "goals" = some none)
    (na_Near_table : PySem.W.findIn K (.ref c_Near) "table" = some none)
    {c_StandChoices : Addr} (ad_StandChoices : PySem.W.nsIn K mainGlobals "StandChoices" = some (some (.ref c_StandChoices))) (pg_StandChoices : PySem.W.plainGet K c_StandChoices Str.empty = true) (hd_StandChoices : PySem.W.hasDictIn K c_StandChoices = true) (po_StandChoices : PySem.W.plainOver K c_StandChoices = true)
    (sa_StandChoices : PySem.W.findIn K (.ref c_StandChoices) "__setattr__" = some (some (.builtin "object.__setattr__"))) (mk_StandChoices : PySem.W.makesIn K c_StandChoices = true) (kc_StandChoices : PySem.W.keepIn K (.ref c_StandChoices) = true)
    (na_StandChoices_near : PySem.W.findIn K (.ref c_StandChoices) "near" = some none)
    (na_StandChoices_stands : PySem.W.findIn K (.ref c_StandChoices) "stands" = some none)
    {a__is_near : Addr} {od__is_near an__is_near : Option Addr} {sl__is_near : Array (Option Value)} {oc__is_near kV__is_near dc__is_near pm__is_near cd__is_near ct__is_near : Value}
    (ad__is_near : PySem.W.nsIn K mainGlobals "_is_near" = some (some (.ref a__is_near)))
    (lo__is_near : K.lookup a__is_near = some ⟨oc__is_near, od__is_near, .func (PySem.W.fnOf "_is_near" "_is_near" (defArgs s__is_near_) (defBody s__is_near_) (defScope s__is_near_) .none kV__is_near dc__is_near pm__is_near an__is_near cd__is_near ct__is_near), sl__is_near⟩)
    (co__is_near : PySem.W.codeIn K cd__is_near "_is_near" = true) (kp__is_near : PySem.W.keepIn K (.ref a__is_near) = true)
    {a_reached : Addr} {od_reached an_reached : Option Addr} {sl_reached : Array (Option Value)} {oc_reached kV_reached dc_reached pm_reached cd_reached ct_reached : Value}
    (ad_reached : PySem.W.nsIn K mainGlobals "reached" = some (some (.ref a_reached)))
    (lo_reached : K.lookup a_reached = some ⟨oc_reached, od_reached, .func (PySem.W.fnOf "reached" "reached" (defArgs s_reached_) (defBody s_reached_) (defScope s_reached_) .none kV_reached dc_reached pm_reached an_reached cd_reached ct_reached), sl_reached⟩)
    (co_reached : PySem.W.codeIn K cd_reached "reached" = true) (kp_reached : PySem.W.keepIn K (.ref a_reached) = true)
    {a_bare : Addr} {od_bare an_bare : Option Addr} {sl_bare : Array (Option Value)} {oc_bare kV_bare dc_bare pm_bare cd_bare ct_bare : Value}
    (ad_bare : PySem.W.nsIn K mainGlobals "bare" = some (some (.ref a_bare)))
    (lo_bare : K.lookup a_bare = some ⟨oc_bare, od_bare, .func (PySem.W.fnOf "bare" "bare" (defArgs s_bare_) (defBody s_bare_) (defScope s_bare_) .none kV_bare dc_bare pm_bare an_bare cd_bare ct_bare), sl_bare⟩)
    (co_bare : PySem.W.codeIn K cd_bare "bare" = true) (kp_bare : PySem.W.keepIn K (.ref a_bare) = true)
    {a_lost : Addr} {od_lost an_lost : Option Addr} {sl_lost : Array (Option Value)} {oc_lost kV_lost dc_lost pm_lost cd_lost ct_lost : Value}
    (ad_lost : PySem.W.nsIn K mainGlobals "lost" = some (some (.ref a_lost)))
    (lo_lost : K.lookup a_lost = some ⟨oc_lost, od_lost, .func (PySem.W.fnOf "lost" "lost" (defArgs s_lost_) (defBody s_lost_) (defScope s_lost_) .none kV_lost dc_lost pm_lost an_lost cd_lost ct_lost), sl_lost⟩)
    (co_lost : PySem.W.codeIn K cd_lost "lost" = true) (kp_lost : PySem.W.keepIn K (.ref a_lost) = true)
    {a_Near____init__ : Addr} {od_Near____init__ an_Near____init__ : Option Addr} {sl_Near____init__ : Array (Option Value)} {oc_Near____init__ kV_Near____init__ dc_Near____init__ pm_Near____init__ cd_Near____init__ ct_Near____init__ : Value}
    (fi_Near____init__ : PySem.W.findIn K (.ref c_Near) "__init__" = some (some (.ref a_Near____init__))) (ifn_Near____init__ : PySem.W.isFn K (.ref a_Near____init__) = true)
    (lo_Near____init__ : K.lookup a_Near____init__ = some ⟨oc_Near____init__, od_Near____init__, .func (PySem.W.fnOf "__init__" "Near.__init__" (defArgs s_Near____init___) (defBody s_Near____init___) (defScope s_Near____init___) .none kV_Near____init__ dc_Near____init__ pm_Near____init__ an_Near____init__ cd_Near____init__ ct_Near____init__), sl_Near____init__⟩)
    (co_Near____init__ : PySem.W.codeIn K cd_Near____init__ "Near.__init__" = true) (kp_Near____init__ : PySem.W.keepIn K (.ref a_Near____init__) = true)
    {a_Near__reaches : Addr} {od_Near__reaches an_Near__reaches : Option Addr} {sl_Near__reaches : Array (Option Value)} {oc_Near__reaches kV_Near__reaches dc_Near__reaches pm_Near__reaches cd_Near__reaches ct_Near__reaches : Value}
    (fi_Near__reaches : PySem.W.findIn K (.ref c_Near) "reaches" = some (some (.ref a_Near__reaches))) (ifn_Near__reaches : PySem.W.isFn K (.ref a_Near__reaches) = true)
    (lo_Near__reaches : K.lookup a_Near__reaches = some ⟨oc_Near__reaches, od_Near__reaches, .func (PySem.W.fnOf "reaches" "Near.reaches" (defArgs s_Near__reaches_) (defBody s_Near__reaches_) (defScope s_Near__reaches_) .none kV_Near__reaches dc_Near__reaches pm_Near__reaches an_Near__reaches cd_Near__reaches ct_Near__reaches), sl_Near__reaches⟩)
    (co_Near__reaches : PySem.W.codeIn K cd_Near__reaches "Near.reaches" = true) (kp_Near__reaches : PySem.W.keepIn K (.ref a_Near__reaches) = true)
    {a_Near__lacking : Addr} {od_Near__lacking an_Near__lacking : Option Addr} {sl_Near__lacking : Array (Option Value)} {oc_Near__lacking kV_Near__lacking dc_Near__lacking pm_Near__lacking cd_Near__lacking ct_Near__lacking : Value}
    (fi_Near__lacking : PySem.W.findIn K (.ref c_Near) "lacking" = some (some (.ref a_Near__lacking))) (ifn_Near__lacking : PySem.W.isFn K (.ref a_Near__lacking) = true)
    (lo_Near__lacking : K.lookup a_Near__lacking = some ⟨oc_Near__lacking, od_Near__lacking, .func (PySem.W.fnOf "lacking" "Near.lacking" (defArgs s_Near__lacking_) (defBody s_Near__lacking_) (defScope s_Near__lacking_) .none kV_Near__lacking dc_Near__lacking pm_Near__lacking an_Near__lacking cd_Near__lacking ct_Near__lacking), sl_Near__lacking⟩)
    (co_Near__lacking : PySem.W.codeIn K cd_Near__lacking "Near.lacking" = true) (kp_Near__lacking : PySem.W.keepIn K (.ref a_Near__lacking) = true)
    {a_StandChoices____init__ : Addr} {od_StandChoices____init__ an_StandChoices____init__ : Option Addr} {sl_StandChoices____init__ : Array (Option Value)} {oc_StandChoices____init__ kV_StandChoices____init__ dc_StandChoices____init__ pm_StandChoices____init__ cd_StandChoices____init__ ct_StandChoices____init__ : Value}
    (fi_StandChoices____init__ : PySem.W.findIn K (.ref c_StandChoices) "__init__" = some (some (.ref a_StandChoices____init__))) (ifn_StandChoices____init__ : PySem.W.isFn K (.ref a_StandChoices____init__) = true)
    (lo_StandChoices____init__ : K.lookup a_StandChoices____init__ = some ⟨oc_StandChoices____init__, od_StandChoices____init__, .func (PySem.W.fnOf "__init__" "StandChoices.__init__" (defArgs s_StandChoices____init___) (defBody s_StandChoices____init___) (defScope s_StandChoices____init___) .none kV_StandChoices____init__ dc_StandChoices____init__ pm_StandChoices____init__ an_StandChoices____init__ cd_StandChoices____init__ ct_StandChoices____init__), sl_StandChoices____init__⟩)
    (co_StandChoices____init__ : PySem.W.codeIn K cd_StandChoices____init__ "StandChoices.__init__" = true) (kp_StandChoices____init__ : PySem.W.keepIn K (.ref a_StandChoices____init__) = true)
    {a_StandChoices__lacking : Addr} {od_StandChoices__lacking an_StandChoices__lacking : Option Addr} {sl_StandChoices__lacking : Array (Option Value)} {oc_StandChoices__lacking kV_StandChoices__lacking dc_StandChoices__lacking pm_StandChoices__lacking cd_StandChoices__lacking ct_StandChoices__lacking : Value}
    (fi_StandChoices__lacking : PySem.W.findIn K (.ref c_StandChoices) "lacking" = some (some (.ref a_StandChoices__lacking))) (ifn_StandChoices__lacking : PySem.W.isFn K (.ref a_StandChoices__lacking) = true)
    (lo_StandChoices__lacking : K.lookup a_StandChoices__lacking = some ⟨oc_StandChoices__lacking, od_StandChoices__lacking, .func (PySem.W.fnOf "lacking" "StandChoices.lacking" (defArgs s_StandChoices__lacking_) (defBody s_StandChoices__lacking_) (defScope s_StandChoices__lacking_) .none kV_StandChoices__lacking dc_StandChoices__lacking pm_StandChoices__lacking an_StandChoices__lacking cd_StandChoices__lacking ct_StandChoices__lacking), sl_StandChoices__lacking⟩)
    (co_StandChoices__lacking : PySem.W.codeIn K cd_StandChoices__lacking "StandChoices.lacking" = true) (kp_StandChoices__lacking : PySem.W.keepIn K (.ref a_StandChoices__lacking) = true)
    {a_StandChoices__options : Addr} {od_StandChoices__options an_StandChoices__options : Option Addr} {sl_StandChoices__options : Array (Option Value)} {oc_StandChoices__options kV_StandChoices__options dc_StandChoices__options pm_StandChoices__options cd_StandChoices__options ct_StandChoices__options : Value}
    (fi_StandChoices__options : PySem.W.findIn K (.ref c_StandChoices) "options" = some (some (.ref a_StandChoices__options))) (ifn_StandChoices__options : PySem.W.isFn K (.ref a_StandChoices__options) = true)
    (lo_StandChoices__options : K.lookup a_StandChoices__options = some ⟨oc_StandChoices__options, od_StandChoices__options, .func (PySem.W.fnOf "options" "StandChoices.options" (defArgs s_StandChoices__options_) (defBody s_StandChoices__options_) (defScope s_StandChoices__options_) .none kV_StandChoices__options dc_StandChoices__options pm_StandChoices__options an_StandChoices__options cd_StandChoices__options ct_StandChoices__options), sl_StandChoices__options⟩)
    (co_StandChoices__options : PySem.W.codeIn K cd_StandChoices__options "StandChoices.options" = true) (kp_StandChoices__options : PySem.W.keepIn K (.ref a_StandChoices__options) = true)
    {a_StandChoices__ordered : Addr} {od_StandChoices__ordered an_StandChoices__ordered : Option Addr} {sl_StandChoices__ordered : Array (Option Value)} {oc_StandChoices__ordered kV_StandChoices__ordered dc_StandChoices__ordered pm_StandChoices__ordered cd_StandChoices__ordered ct_StandChoices__ordered : Value}
    (fi_StandChoices__ordered : PySem.W.findIn K (.ref c_StandChoices) "ordered" = some (some (.ref a_StandChoices__ordered))) (ifn_StandChoices__ordered : PySem.W.isFn K (.ref a_StandChoices__ordered) = true)
    (lo_StandChoices__ordered : K.lookup a_StandChoices__ordered = some ⟨oc_StandChoices__ordered, od_StandChoices__ordered, .func (PySem.W.fnOf "ordered" "StandChoices.ordered" (defArgs s_StandChoices__ordered_) (defBody s_StandChoices__ordered_) (defScope s_StandChoices__ordered_) .none kV_StandChoices__ordered dc_StandChoices__ordered pm_StandChoices__ordered an_StandChoices__ordered cd_StandChoices__ordered ct_StandChoices__ordered), sl_StandChoices__ordered⟩)
    (co_StandChoices__ordered : PySem.W.codeIn K cd_StandChoices__ordered "StandChoices.ordered" = true) (kp_StandChoices__ordered : PySem.W.keepIn K (.ref a_StandChoices__ordered) = true)
    {a__is_node : Addr} {od__is_node an__is_node : Option Addr} {sl__is_node : Array (Option Value)} {oc__is_node kV__is_node dc__is_node pm__is_node cd__is_node ct__is_node : Value}
    (ad__is_node : PySem.W.nsIn K mainGlobals "_is_node" = some (some (.ref a__is_node)))
    (lo__is_node : K.lookup a__is_node = some ⟨oc__is_node, od__is_node, .func (PySem.W.fnOf "_is_node" "_is_node" (defArgs s__is_node_) (defBody s__is_node_) (defScope s__is_node_) .none kV__is_node dc__is_node pm__is_node an__is_node cd__is_node ct__is_node), sl__is_node⟩)
    (co__is_node : PySem.W.codeIn K cd__is_node "_is_node" = true) (kp__is_node : PySem.W.keepIn K (.ref a__is_node) = true)
    {a__is_bare : Addr} {od__is_bare an__is_bare : Option Addr} {sl__is_bare : Array (Option Value)} {oc__is_bare kV__is_bare dc__is_bare pm__is_bare cd__is_bare ct__is_bare : Value}
    (ad__is_bare : PySem.W.nsIn K mainGlobals "_is_bare" = some (some (.ref a__is_bare)))
    (lo__is_bare : K.lookup a__is_bare = some ⟨oc__is_bare, od__is_bare, .func (PySem.W.fnOf "_is_bare" "_is_bare" (defArgs s__is_bare_) (defBody s__is_bare_) (defScope s__is_bare_) .none kV__is_bare dc__is_bare pm__is_bare an__is_bare cd__is_bare ct__is_bare), sl__is_bare⟩)
    (co__is_bare : PySem.W.codeIn K cd__is_bare "_is_bare" = true) (kp__is_bare : PySem.W.keepIn K (.ref a__is_bare) = true)
    {a__are_branches tc__are_branches P__are_branches : Addr} {od__are_branches an__are_branches : Option Addr} {sl__are_branches : Array (Option Value)} {oc__are_branches kV__are_branches dc__are_branches pm__are_branches ct__are_branches : Value}
    (ad__are_branches : PySem.W.nsIn K mainGlobals "_are_branches" = some (some (.ref a__are_branches)))
    (lo__are_branches : K.lookup a__are_branches = some ⟨oc__are_branches, od__are_branches, .func (PySem.W.fnOf "_are_branches" "_are_branches" (defArgs s__are_branches_) (defBody s__are_branches_) (defScope s__are_branches_) .none kV__are_branches dc__are_branches pm__are_branches an__are_branches (.ref tc__are_branches) ct__are_branches), sl__are_branches⟩)
    (co__are_branches : PySem.W.codeIn K (.ref tc__are_branches) "_are_branches" = true) (kp__are_branches : PySem.W.keepIn K (.ref a__are_branches) = true)
    (tb__are_branches : tabIn K tc__are_branches = some P__are_branches) (re__are_branches : ((recsOf q).any fun e => e.name == "_are_branches") = true)
    {a__is_by tc__is_by P__is_by : Addr} {od__is_by an__is_by : Option Addr} {sl__is_by : Array (Option Value)} {oc__is_by kV__is_by dc__is_by pm__is_by ct__is_by : Value}
    (ad__is_by : PySem.W.nsIn K mainGlobals "_is_by" = some (some (.ref a__is_by)))
    (lo__is_by : K.lookup a__is_by = some ⟨oc__is_by, od__is_by, .func (PySem.W.fnOf "_is_by" "_is_by" (defArgs s__is_by_) (defBody s__is_by_) (defScope s__is_by_) .none kV__is_by dc__is_by pm__is_by an__is_by (.ref tc__is_by) ct__is_by), sl__is_by⟩)
    (co__is_by : PySem.W.codeIn K (.ref tc__is_by) "_is_by" = true) (kp__is_by : PySem.W.keepIn K (.ref a__is_by) = true)
    (tb__is_by : tabIn K tc__is_by = some P__is_by) (re__is_by : ((recsOf q).any fun e => e.name == "_is_by") = true)
    {a__is_full : Addr} {od__is_full an__is_full : Option Addr} {sl__is_full : Array (Option Value)} {oc__is_full kV__is_full dc__is_full pm__is_full cd__is_full ct__is_full : Value}
    (ad__is_full : PySem.W.nsIn K mainGlobals "_is_full" = some (some (.ref a__is_full)))
    (lo__is_full : K.lookup a__is_full = some ⟨oc__is_full, od__is_full, .func (PySem.W.fnOf "_is_full" "_is_full" (defArgs s__is_full_) (defBody s__is_full_) (defScope s__is_full_) .none kV__is_full dc__is_full pm__is_full an__is_full cd__is_full ct__is_full), sl__is_full⟩)
    (co__is_full : PySem.W.codeIn K cd__is_full "_is_full" = true) (kp__is_full : PySem.W.keepIn K (.ref a__is_full) = true)
    {a__shows : Addr} {od__shows an__shows : Option Addr} {sl__shows : Array (Option Value)} {oc__shows kV__shows dc__shows pm__shows cd__shows ct__shows : Value}
    (ad__shows : PySem.W.nsIn K mainGlobals "_shows" = some (some (.ref a__shows)))
    (lo__shows : K.lookup a__shows = some ⟨oc__shows, od__shows, .func (PySem.W.fnOf "_shows" "_shows" (defArgs s__shows_) (defBody s__shows_) (defScope s__shows_) .none kV__shows dc__shows pm__shows an__shows cd__shows ct__shows), sl__shows⟩)
    (co__shows : PySem.W.codeIn K cd__shows "_shows" = true) (kp__shows : PySem.W.keepIn K (.ref a__shows) = true)
    {a_shows_posts : Addr} {od_shows_posts an_shows_posts : Option Addr} {sl_shows_posts : Array (Option Value)} {oc_shows_posts kV_shows_posts dc_shows_posts pm_shows_posts cd_shows_posts ct_shows_posts : Value}
    (ad_shows_posts : PySem.W.nsIn K mainGlobals "shows_posts" = some (some (.ref a_shows_posts)))
    (lo_shows_posts : K.lookup a_shows_posts = some ⟨oc_shows_posts, od_shows_posts, .func (PySem.W.fnOf "shows_posts" "shows_posts" (defArgs s_shows_posts_) (defBody s_shows_posts_) (defScope s_shows_posts_) .none kV_shows_posts dc_shows_posts pm_shows_posts an_shows_posts cd_shows_posts ct_shows_posts), sl_shows_posts⟩)
    (co_shows_posts : PySem.W.codeIn K cd_shows_posts "shows_posts" = true) (kp_shows_posts : PySem.W.keepIn K (.ref a_shows_posts) = true)
    {a__law_held : Addr} {od__law_held an__law_held : Option Addr} {sl__law_held : Array (Option Value)} {oc__law_held kV__law_held dc__law_held pm__law_held cd__law_held ct__law_held : Value}
    (ad__law_held : PySem.W.nsIn K mainGlobals "_law_held" = some (some (.ref a__law_held)))
    (lo__law_held : K.lookup a__law_held = some ⟨oc__law_held, od__law_held, .func (PySem.W.fnOf "_law_held" "_law_held" (defArgs s__law_held_) (defBody s__law_held_) (defScope s__law_held_) .none kV__law_held dc__law_held pm__law_held an__law_held cd__law_held ct__law_held), sl__law_held⟩)
    (co__law_held : PySem.W.codeIn K cd__law_held "_law_held" = true) (kp__law_held : PySem.W.keepIn K (.ref a__law_held) = true)
    {a__law_draw : Addr} {od__law_draw an__law_draw : Option Addr} {sl__law_draw : Array (Option Value)} {oc__law_draw kV__law_draw dc__law_draw pm__law_draw cd__law_draw ct__law_draw : Value}
    (ad__law_draw : PySem.W.nsIn K mainGlobals "_law_draw" = some (some (.ref a__law_draw)))
    (lo__law_draw : K.lookup a__law_draw = some ⟨oc__law_draw, od__law_draw, .func (PySem.W.fnOf "_law_draw" "_law_draw" (defArgs s__law_draw_) (defBody s__law_draw_) (defScope s__law_draw_) .none kV__law_draw dc__law_draw pm__law_draw an__law_draw cd__law_draw ct__law_draw), sl__law_draw⟩)
    (co__law_draw : PySem.W.codeIn K cd__law_draw "_law_draw" = true) (kp__law_draw : PySem.W.keepIn K (.ref a__law_draw) = true)
    {a__law_some : Addr} {od__law_some an__law_some : Option Addr} {sl__law_some : Array (Option Value)} {oc__law_some kV__law_some dc__law_some pm__law_some cd__law_some ct__law_some : Value}
    (ad__law_some : PySem.W.nsIn K mainGlobals "_law_some" = some (some (.ref a__law_some)))
    (lo__law_some : K.lookup a__law_some = some ⟨oc__law_some, od__law_some, .func (PySem.W.fnOf "_law_some" "_law_some" (defArgs s__law_some_) (defBody s__law_some_) (defScope s__law_some_) .none kV__law_some dc__law_some pm__law_some an__law_some cd__law_some ct__law_some), sl__law_some⟩)
    (co__law_some : PySem.W.codeIn K cd__law_some "_law_some" = true) (kp__law_some : PySem.W.keepIn K (.ref a__law_some) = true)
    {a__law_names : Addr} {od__law_names an__law_names : Option Addr} {sl__law_names : Array (Option Value)} {oc__law_names kV__law_names dc__law_names pm__law_names cd__law_names ct__law_names : Value}
    (ad__law_names : PySem.W.nsIn K mainGlobals "_law_names" = some (some (.ref a__law_names)))
    (lo__law_names : K.lookup a__law_names = some ⟨oc__law_names, od__law_names, .func (PySem.W.fnOf "_law_names" "_law_names" (defArgs s__law_names_) (defBody s__law_names_) (defScope s__law_names_) .none kV__law_names dc__law_names pm__law_names an__law_names cd__law_names ct__law_names), sl__law_names⟩)
    (co__law_names : PySem.W.codeIn K cd__law_names "_law_names" = true) (kp__law_names : PySem.W.keepIn K (.ref a__law_names) = true)
    {a__law_minutes : Addr} {od__law_minutes an__law_minutes : Option Addr} {sl__law_minutes : Array (Option Value)} {oc__law_minutes kV__law_minutes dc__law_minutes pm__law_minutes cd__law_minutes ct__law_minutes : Value}
    (ad__law_minutes : PySem.W.nsIn K mainGlobals "_law_minutes" = some (some (.ref a__law_minutes)))
    (lo__law_minutes : K.lookup a__law_minutes = some ⟨oc__law_minutes, od__law_minutes, .func (PySem.W.fnOf "_law_minutes" "_law_minutes" (defArgs s__law_minutes_) (defBody s__law_minutes_) (defScope s__law_minutes_) .none kV__law_minutes dc__law_minutes pm__law_minutes an__law_minutes cd__law_minutes ct__law_minutes), sl__law_minutes⟩)
    (co__law_minutes : PySem.W.codeIn K cd__law_minutes "_law_minutes" = true) (kp__law_minutes : PySem.W.keepIn K (.ref a__law_minutes) = true)
    {a__law_town : Addr} {od__law_town an__law_town : Option Addr} {sl__law_town : Array (Option Value)} {oc__law_town kV__law_town dc__law_town pm__law_town cd__law_town ct__law_town : Value}
    (ad__law_town : PySem.W.nsIn K mainGlobals "_law_town" = some (some (.ref a__law_town)))
    (lo__law_town : K.lookup a__law_town = some ⟨oc__law_town, od__law_town, .func (PySem.W.fnOf "_law_town" "_law_town" (defArgs s__law_town_) (defBody s__law_town_) (defScope s__law_town_) .none kV__law_town dc__law_town pm__law_town an__law_town cd__law_town ct__law_town), sl__law_town⟩)
    (co__law_town : PySem.W.codeIn K cd__law_town "_law_town" = true) (kp__law_town : PySem.W.keepIn K (.ref a__law_town) = true)
    {a__law_shut : Addr} {od__law_shut an__law_shut : Option Addr} {sl__law_shut : Array (Option Value)} {oc__law_shut kV__law_shut dc__law_shut pm__law_shut cd__law_shut ct__law_shut : Value}
    (ad__law_shut : PySem.W.nsIn K mainGlobals "_law_shut" = some (some (.ref a__law_shut)))
    (lo__law_shut : K.lookup a__law_shut = some ⟨oc__law_shut, od__law_shut, .func (PySem.W.fnOf "_law_shut" "_law_shut" (defArgs s__law_shut_) (defBody s__law_shut_) (defScope s__law_shut_) .none kV__law_shut dc__law_shut pm__law_shut an__law_shut cd__law_shut ct__law_shut), sl__law_shut⟩)
    (co__law_shut : PySem.W.codeIn K cd__law_shut "_law_shut" = true) (kp__law_shut : PySem.W.keepIn K (.ref a__law_shut) = true)
    {a__law_chart : Addr} {od__law_chart an__law_chart : Option Addr} {sl__law_chart : Array (Option Value)} {oc__law_chart kV__law_chart dc__law_chart pm__law_chart cd__law_chart ct__law_chart : Value}
    (ad__law_chart : PySem.W.nsIn K mainGlobals "_law_chart" = some (some (.ref a__law_chart)))
    (lo__law_chart : K.lookup a__law_chart = some ⟨oc__law_chart, od__law_chart, .func (PySem.W.fnOf "_law_chart" "_law_chart" (defArgs s__law_chart_) (defBody s__law_chart_) (defScope s__law_chart_) .none kV__law_chart dc__law_chart pm__law_chart an__law_chart cd__law_chart ct__law_chart), sl__law_chart⟩)
    (co__law_chart : PySem.W.codeIn K cd__law_chart "_law_chart" = true) (kp__law_chart : PySem.W.keepIn K (.ref a__law_chart) = true)
    {a__law_near : Addr} {od__law_near an__law_near : Option Addr} {sl__law_near : Array (Option Value)} {oc__law_near kV__law_near dc__law_near pm__law_near cd__law_near ct__law_near : Value}
    (ad__law_near : PySem.W.nsIn K mainGlobals "_law_near" = some (some (.ref a__law_near)))
    (lo__law_near : K.lookup a__law_near = some ⟨oc__law_near, od__law_near, .func (PySem.W.fnOf "_law_near" "_law_near" (defArgs s__law_near_) (defBody s__law_near_) (defScope s__law_near_) .none kV__law_near dc__law_near pm__law_near an__law_near cd__law_near ct__law_near), sl__law_near⟩)
    (co__law_near : PySem.W.codeIn K cd__law_near "_law_near" = true) (kp__law_near : PySem.W.keepIn K (.ref a__law_near) = true)
    {a__law_stage : Addr} {od__law_stage an__law_stage : Option Addr} {sl__law_stage : Array (Option Value)} {oc__law_stage kV__law_stage dc__law_stage pm__law_stage cd__law_stage ct__law_stage : Value}
    (ad__law_stage : PySem.W.nsIn K mainGlobals "_law_stage" = some (some (.ref a__law_stage)))
    (lo__law_stage : K.lookup a__law_stage = some ⟨oc__law_stage, od__law_stage, .func (PySem.W.fnOf "_law_stage" "_law_stage" (defArgs s__law_stage_) (defBody s__law_stage_) (defScope s__law_stage_) .none kV__law_stage dc__law_stage pm__law_stage an__law_stage cd__law_stage ct__law_stage), sl__law_stage⟩)
    (co__law_stage : PySem.W.codeIn K cd__law_stage "_law_stage" = true) (kp__law_stage : PySem.W.keepIn K (.ref a__law_stage) = true)
    {a__law_left : Addr} {od__law_left an__law_left : Option Addr} {sl__law_left : Array (Option Value)} {oc__law_left kV__law_left dc__law_left pm__law_left cd__law_left ct__law_left : Value}
    (ad__law_left : PySem.W.nsIn K mainGlobals "_law_left" = some (some (.ref a__law_left)))
    (lo__law_left : K.lookup a__law_left = some ⟨oc__law_left, od__law_left, .func (PySem.W.fnOf "_law_left" "_law_left" (defArgs s__law_left_) (defBody s__law_left_) (defScope s__law_left_) .none kV__law_left dc__law_left pm__law_left an__law_left cd__law_left ct__law_left), sl__law_left⟩)
    (co__law_left : PySem.W.codeIn K cd__law_left "_law_left" = true) (kp__law_left : PySem.W.keepIn K (.ref a__law_left) = true)
    {a__law_sets : Addr} {od__law_sets an__law_sets : Option Addr} {sl__law_sets : Array (Option Value)} {oc__law_sets kV__law_sets dc__law_sets pm__law_sets cd__law_sets ct__law_sets : Value}
    (ad__law_sets : PySem.W.nsIn K mainGlobals "_law_sets" = some (some (.ref a__law_sets)))
    (lo__law_sets : K.lookup a__law_sets = some ⟨oc__law_sets, od__law_sets, .func (PySem.W.fnOf "_law_sets" "_law_sets" (defArgs s__law_sets_) (defBody s__law_sets_) (defScope s__law_sets_) .none kV__law_sets dc__law_sets pm__law_sets an__law_sets cd__law_sets ct__law_sets), sl__law_sets⟩)
    (co__law_sets : PySem.W.codeIn K cd__law_sets "_law_sets" = true) (kp__law_sets : PySem.W.keepIn K (.ref a__law_sets) = true)
    {a__law_fewest : Addr} {od__law_fewest an__law_fewest : Option Addr} {sl__law_fewest : Array (Option Value)} {oc__law_fewest kV__law_fewest dc__law_fewest pm__law_fewest cd__law_fewest ct__law_fewest : Value}
    (ad__law_fewest : PySem.W.nsIn K mainGlobals "_law_fewest" = some (some (.ref a__law_fewest)))
    (lo__law_fewest : K.lookup a__law_fewest = some ⟨oc__law_fewest, od__law_fewest, .func (PySem.W.fnOf "_law_fewest" "_law_fewest" (defArgs s__law_fewest_) (defBody s__law_fewest_) (defScope s__law_fewest_) .none kV__law_fewest dc__law_fewest pm__law_fewest an__law_fewest cd__law_fewest ct__law_fewest), sl__law_fewest⟩)
    (co__law_fewest : PySem.W.codeIn K cd__law_fewest "_law_fewest" = true) (kp__law_fewest : PySem.W.keepIn K (.ref a__law_fewest) = true)
    {a__law_covering : Addr} {od__law_covering an__law_covering : Option Addr} {sl__law_covering : Array (Option Value)} {oc__law_covering kV__law_covering dc__law_covering pm__law_covering cd__law_covering ct__law_covering : Value}
    (ad__law_covering : PySem.W.nsIn K mainGlobals "_law_covering" = some (some (.ref a__law_covering)))
    (lo__law_covering : K.lookup a__law_covering = some ⟨oc__law_covering, od__law_covering, .func (PySem.W.fnOf "_law_covering" "_law_covering" (defArgs s__law_covering_) (defBody s__law_covering_) (defScope s__law_covering_) .none kV__law_covering dc__law_covering pm__law_covering an__law_covering cd__law_covering ct__law_covering), sl__law_covering⟩)
    (co__law_covering : PySem.W.codeIn K cd__law_covering "_law_covering" = true) (kp__law_covering : PySem.W.keepIn K (.ref a__law_covering) = true)
    {a__law_is_node : Addr} {od__law_is_node an__law_is_node : Option Addr} {sl__law_is_node : Array (Option Value)} {oc__law_is_node kV__law_is_node dc__law_is_node pm__law_is_node cd__law_is_node ct__law_is_node : Value}
    (ad__law_is_node : PySem.W.nsIn K mainGlobals "_law_is_node" = some (some (.ref a__law_is_node)))
    (lo__law_is_node : K.lookup a__law_is_node = some ⟨oc__law_is_node, od__law_is_node, .func (PySem.W.fnOf "_law_is_node" "_law_is_node" (defArgs s__law_is_node_) (defBody s__law_is_node_) (defScope s__law_is_node_) .none kV__law_is_node dc__law_is_node pm__law_is_node an__law_is_node cd__law_is_node ct__law_is_node), sl__law_is_node⟩)
    (co__law_is_node : PySem.W.codeIn K cd__law_is_node "_law_is_node" = true) (kp__law_is_node : PySem.W.keepIn K (.ref a__law_is_node) = true)
    {a__law_are_just : Addr} {od__law_are_just an__law_are_just : Option Addr} {sl__law_are_just : Array (Option Value)} {oc__law_are_just kV__law_are_just dc__law_are_just pm__law_are_just cd__law_are_just ct__law_are_just : Value}
    (ad__law_are_just : PySem.W.nsIn K mainGlobals "_law_are_just" = some (some (.ref a__law_are_just)))
    (lo__law_are_just : K.lookup a__law_are_just = some ⟨oc__law_are_just, od__law_are_just, .func (PySem.W.fnOf "_law_are_just" "_law_are_just" (defArgs s__law_are_just_) (defBody s__law_are_just_) (defScope s__law_are_just_) .none kV__law_are_just dc__law_are_just pm__law_are_just an__law_are_just cd__law_are_just ct__law_are_just), sl__law_are_just⟩)
    (co__law_are_just : PySem.W.codeIn K cd__law_are_just "_law_are_just" = true) (kp__law_are_just : PySem.W.keepIn K (.ref a__law_are_just) = true)
    {a__law_shows : Addr} {od__law_shows an__law_shows : Option Addr} {sl__law_shows : Array (Option Value)} {oc__law_shows kV__law_shows dc__law_shows pm__law_shows cd__law_shows ct__law_shows : Value}
    (ad__law_shows : PySem.W.nsIn K mainGlobals "_law_shows" = some (some (.ref a__law_shows)))
    (lo__law_shows : K.lookup a__law_shows = some ⟨oc__law_shows, od__law_shows, .func (PySem.W.fnOf "_law_shows" "_law_shows" (defArgs s__law_shows_) (defBody s__law_shows_) (defScope s__law_shows_) .none kV__law_shows dc__law_shows pm__law_shows an__law_shows cd__law_shows ct__law_shows), sl__law_shows⟩)
    (co__law_shows : PySem.W.codeIn K cd__law_shows "_law_shows" = true) (kp__law_shows : PySem.W.keepIn K (.ref a__law_shows) = true)
    {a__law_tree_by : Addr} {od__law_tree_by an__law_tree_by : Option Addr} {sl__law_tree_by : Array (Option Value)} {oc__law_tree_by kV__law_tree_by dc__law_tree_by pm__law_tree_by cd__law_tree_by ct__law_tree_by : Value}
    (ad__law_tree_by : PySem.W.nsIn K mainGlobals "_law_tree_by" = some (some (.ref a__law_tree_by)))
    (lo__law_tree_by : K.lookup a__law_tree_by = some ⟨oc__law_tree_by, od__law_tree_by, .func (PySem.W.fnOf "_law_tree_by" "_law_tree_by" (defArgs s__law_tree_by_) (defBody s__law_tree_by_) (defScope s__law_tree_by_) .none kV__law_tree_by dc__law_tree_by pm__law_tree_by an__law_tree_by cd__law_tree_by ct__law_tree_by), sl__law_tree_by⟩)
    (co__law_tree_by : PySem.W.codeIn K cd__law_tree_by "_law_tree_by" = true) (kp__law_tree_by : PySem.W.keepIn K (.ref a__law_tree_by) = true)
    {a_law : Addr} {od_law an_law : Option Addr} {sl_law : Array (Option Value)} {oc_law kV_law dc_law pm_law cd_law ct_law : Value}
    (ad_law : PySem.W.nsIn K mainGlobals "law" = some (some (.ref a_law)))
    (lo_law : K.lookup a_law = some ⟨oc_law, od_law, .func (PySem.W.fnOf "law" "law" (defArgs s_law_) (defBody s_law_) (defScope s_law_) .none kV_law dc_law pm_law an_law cd_law ct_law), sl_law⟩)
    (co_law : PySem.W.codeIn K cd_law "law" = true) (kp_law : PySem.W.keepIn K (.ref a_law) = true)
    (no_zip : PySem.W.nsIn K mainGlobals "zip" = some none)
    (no_sorted : PySem.W.nsIn K mainGlobals "sorted" = some none)
    (no_isinstance : PySem.W.nsIn K mainGlobals "isinstance" = some none)
    (no_tuple : PySem.W.nsIn K mainGlobals "tuple" = some none)
    (no_len : PySem.W.nsIn K mainGlobals "len" = some none)
    (no_all : PySem.W.nsIn K mainGlobals "all" = some none)
    (no_list : PySem.W.nsIn K mainGlobals "list" = some none)
    (no_range : PySem.W.nsIn K mainGlobals "range" = some none)
    (no_int : PySem.W.nsIn K mainGlobals "int" = some none)
    (no_max : PySem.W.nsIn K mainGlobals "max" = some none)
    (no_min : PySem.W.nsIn K mainGlobals "min" = some none)
    (no_dict : PySem.W.nsIn K mainGlobals "dict" = some none)
    (no_any : PySem.W.nsIn K mainGlobals "any" = some none)
    (no_str : PySem.W.nsIn K mainGlobals "str" = some none)
    : ∃ (fd : FuncData) (ts : List (Str × Addr × Addr)), (∀ t ∈ ts, TabDef q K mg t) ∧ (∀ (s : Shared) (u : Value), BindsTo s fd ⟨[u], []⟩ [("script", u)]) ∧ ∀ b : Heap, K.In b → b.Ns mainGlobals mg → (∀ t ∈ ts, GxR.TabB b mg t.2.1 t.2.2) → Keeps P w K mg b CX0 27 fa fd ["script"] (spLaw K (ts.map fun t => t.2.2)) := by
  have e := hfa.symm.trans (PySem.W.mg_of X G ad_law)
  cases e
  have f__is_near := fun_mk (st := s__is_near_) lo__is_near co__is_near kp__is_near
  have F__is_near : Fn K mg "_is_near" s__is_near_ _ _ ["minutes", "reach"] := ⟨f__is_near, PySem.W.mg_of X G ad__is_near, f__is_near.binds (ps := ["minutes", "reach"]) fun _ _ _ _ _ _ us hl => match us, hl with | [_, _], _ => rfl⟩
  have f_reached := fun_mk (st := s_reached_) lo_reached co_reached kp_reached
  have F_reached : Fn K mg "reached" s_reached_ _ _ ["town", "chart", "place"] := ⟨f_reached, PySem.W.mg_of X G ad_reached, f_reached.binds (ps := ["town", "chart", "place"]) fun _ _ _ _ _ _ us hl => match us, hl with | [_, _, _], _ => rfl⟩
  have f_bare := fun_mk (st := s_bare_) lo_bare co_bare kp_bare
  have F_bare : Fn K mg "bare" s_bare_ _ _ ["town", "chart", "posts"] := ⟨f_bare, PySem.W.mg_of X G ad_bare, f_bare.binds (ps := ["town", "chart", "posts"]) fun _ _ _ _ _ _ us hl => match us, hl with | [_, _, _], _ => rfl⟩
  have f_lost := fun_mk (st := s_lost_) lo_lost co_lost kp_lost
  have F_lost : Fn K mg "lost" s_lost_ _ _ ["town", "chart"] := ⟨f_lost, PySem.W.mg_of X G ad_lost, f_lost.binds (ps := ["town", "chart"]) fun _ _ _ _ _ _ us hl => match us, hl with | [_, _], _ => rfl⟩
  have f_Near____init__ := fun_mk (st := s_Near____init___) lo_Near____init__ co_Near____init__ kp_Near____init__
  have F_Near____init__ : FnM K "__init__" "Near.__init__" s_Near____init___ _ _ ["self", "town", "chart"] := ⟨f_Near____init__, f_Near____init__.binds (ps := ["self", "town", "chart"]) fun _ _ _ _ _ _ us hl => match us, hl with | [_, _, _], _ => rfl⟩
  have me_Near____init__ : Meth K c_Near "__init__" a_Near____init__ := ⟨fi_Near____init__, ifn_Near____init__, kp_Near____init__⟩
  have f_Near__reaches := fun_mk (st := s_Near__reaches_) lo_Near__reaches co_Near__reaches kp_Near__reaches
  have F_Near__reaches : FnM K "reaches" "Near.reaches" s_Near__reaches_ _ _ ["self", "post", "place"] := ⟨f_Near__reaches, f_Near__reaches.binds (ps := ["self", "post", "place"]) fun _ _ _ _ _ _ us hl => match us, hl with | [_, _, _], _ => rfl⟩
  have me_Near__reaches : Meth K c_Near "reaches" a_Near__reaches := ⟨fi_Near__reaches, ifn_Near__reaches, kp_Near__reaches⟩
  have f_Near__lacking := fun_mk (st := s_Near__lacking_) lo_Near__lacking co_Near__lacking kp_Near__lacking
  have F_Near__lacking : FnM K "lacking" "Near.lacking" s_Near__lacking_ _ _ ["self", "posts"] := ⟨f_Near__lacking, f_Near__lacking.binds (ps := ["self", "posts"]) fun _ _ _ _ _ _ us hl => match us, hl with | [_, _], _ => rfl⟩
  have me_Near__lacking : Meth K c_Near "lacking" a_Near__lacking := ⟨fi_Near__lacking, ifn_Near__lacking, kp_Near__lacking⟩
  have f_StandChoices____init__ := fun_mk (st := s_StandChoices____init___) lo_StandChoices____init__ co_StandChoices____init__ kp_StandChoices____init__
  have F_StandChoices____init__ : FnM K "__init__" "StandChoices.__init__" s_StandChoices____init___ _ _ ["self", "town", "chart"] := ⟨f_StandChoices____init__, f_StandChoices____init__.binds (ps := ["self", "town", "chart"]) fun _ _ _ _ _ _ us hl => match us, hl with | [_, _, _], _ => rfl⟩
  have me_StandChoices____init__ : Meth K c_StandChoices "__init__" a_StandChoices____init__ := ⟨fi_StandChoices____init__, ifn_StandChoices____init__, kp_StandChoices____init__⟩
  have f_StandChoices__lacking := fun_mk (st := s_StandChoices__lacking_) lo_StandChoices__lacking co_StandChoices__lacking kp_StandChoices__lacking
  have F_StandChoices__lacking : FnM K "lacking" "StandChoices.lacking" s_StandChoices__lacking_ _ _ ["self", "chosen"] := ⟨f_StandChoices__lacking, f_StandChoices__lacking.binds (ps := ["self", "chosen"]) fun _ _ _ _ _ _ us hl => match us, hl with | [_, _], _ => rfl⟩
  have me_StandChoices__lacking : Meth K c_StandChoices "lacking" a_StandChoices__lacking := ⟨fi_StandChoices__lacking, ifn_StandChoices__lacking, kp_StandChoices__lacking⟩
  have f_StandChoices__options := fun_mk (st := s_StandChoices__options_) lo_StandChoices__options co_StandChoices__options kp_StandChoices__options
  have F_StandChoices__options : FnM K "options" "StandChoices.options" s_StandChoices__options_ _ _ ["self", "chosen", "place"] := ⟨f_StandChoices__options, f_StandChoices__options.binds (ps := ["self", "chosen", "place"]) fun _ _ _ _ _ _ us hl => match us, hl with | [_, _, _], _ => rfl⟩
  have me_StandChoices__options : Meth K c_StandChoices "options" a_StandChoices__options := ⟨fi_StandChoices__options, ifn_StandChoices__options, kp_StandChoices__options⟩
  have f_StandChoices__ordered := fun_mk (st := s_StandChoices__ordered_) lo_StandChoices__ordered co_StandChoices__ordered kp_StandChoices__ordered
  have F_StandChoices__ordered : FnM K "ordered" "StandChoices.ordered" s_StandChoices__ordered_ _ _ ["self", "chosen"] := ⟨f_StandChoices__ordered, f_StandChoices__ordered.binds (ps := ["self", "chosen"]) fun _ _ _ _ _ _ us hl => match us, hl with | [_, _], _ => rfl⟩
  have me_StandChoices__ordered : Meth K c_StandChoices "ordered" a_StandChoices__ordered := ⟨fi_StandChoices__ordered, ifn_StandChoices__ordered, kp_StandChoices__ordered⟩
  have f__is_node := fun_mk (st := s__is_node_) lo__is_node co__is_node kp__is_node
  have F__is_node : Fn K mg "_is_node" s__is_node_ _ _ ["thing", "word", "many"] := ⟨f__is_node, PySem.W.mg_of X G ad__is_node, f__is_node.binds (ps := ["thing", "word", "many"]) fun _ _ _ _ _ _ us hl => match us, hl with | [_, _, _], _ => rfl⟩
  have f__is_bare := fun_mk (st := s__is_bare_) lo__is_bare co__is_bare kp__is_bare
  have F__is_bare : Fn K mg "_is_bare" s__is_bare_ _ _ ["choices", "most", "chosen", "place"] := ⟨f__is_bare, PySem.W.mg_of X G ad__is_bare, f__is_bare.binds (ps := ["choices", "most", "chosen", "place"]) fun _ _ _ _ _ _ us hl => match us, hl with | [_, _, _, _], _ => rfl⟩
  have f__are_branches := fun_mk (st := s__are_branches_) lo__are_branches co__are_branches kp__are_branches
  have F__are_branches : Fn K mg "_are_branches" s__are_branches_ _ _ ["thing", "options"] := ⟨f__are_branches, PySem.W.mg_of X G ad__are_branches, f__are_branches.binds (ps := ["thing", "options"]) fun _ _ _ _ _ _ us hl => match us, hl with | [_, _], _ => rfl⟩
  have f__is_by := fun_mk (st := s__is_by_) lo__is_by co__is_by kp__is_by
  have F__is_by : Fn K mg "_is_by" s__is_by_ _ _ ["choices", "most", "least", "chosen", "place", "branches"] := ⟨f__is_by, PySem.W.mg_of X G ad__is_by, f__is_by.binds (ps := ["choices", "most", "least", "chosen", "place", "branches"]) fun _ _ _ _ _ _ us hl => match us, hl with | [_, _, _, _, _, _], _ => rfl⟩
  have f__is_full := fun_mk (st := s__is_full_) lo__is_full co__is_full kp__is_full
  have F__is_full : Fn K mg "_is_full" s__is_full_ _ _ ["choices", "most", "least", "chosen"] := ⟨f__is_full, PySem.W.mg_of X G ad__is_full, f__is_full.binds (ps := ["choices", "most", "least", "chosen"]) fun _ _ _ _ _ _ us hl => match us, hl with | [_, _, _, _], _ => rfl⟩
  have f__shows := fun_mk (st := s__shows_) lo__shows co__shows kp__shows
  have F__shows : Fn K mg "_shows" s__shows_ _ _ ["choices", "most", "least", "chosen", "thing"] := ⟨f__shows, PySem.W.mg_of X G ad__shows, f__shows.binds (ps := ["choices", "most", "least", "chosen", "thing"]) fun _ _ _ _ _ _ us hl => match us, hl with | [_, _, _, _, _], _ => rfl⟩
  have f_shows_posts := fun_mk (st := s_shows_posts_) lo_shows_posts co_shows_posts kp_shows_posts
  have F_shows_posts : Fn K mg "shows_posts" s_shows_posts_ _ _ ["town", "chart", "posts", "thing"] := ⟨f_shows_posts, PySem.W.mg_of X G ad_shows_posts, f_shows_posts.binds (ps := ["town", "chart", "posts", "thing"]) fun _ _ _ _ _ _ us hl => match us, hl with | [_, _, _, _], _ => rfl⟩
  have f__law_held := fun_mk (st := s__law_held_) lo__law_held co__law_held kp__law_held
  have F__law_held : Fn K mg "_law_held" s__law_held_ _ _ ["script"] := ⟨f__law_held, PySem.W.mg_of X G ad__law_held, f__law_held.binds (ps := ["script"]) fun _ _ _ _ _ _ us hl => match us, hl with | [_], _ => rfl⟩
  have f__law_draw := fun_mk (st := s__law_draw_) lo__law_draw co__law_draw kp__law_draw
  have F__law_draw : Fn K mg "_law_draw" s__law_draw_ _ _ ["held", "many"] := ⟨f__law_draw, PySem.W.mg_of X G ad__law_draw, f__law_draw.binds (ps := ["held", "many"]) fun _ _ _ _ _ _ us hl => match us, hl with | [_, _], _ => rfl⟩
  have f__law_some := fun_mk (st := s__law_some_) lo__law_some co__law_some kp__law_some
  have F__law_some : Fn K mg "_law_some" s__law_some_ _ _ ["held", "things", "many"] := ⟨f__law_some, PySem.W.mg_of X G ad__law_some, f__law_some.binds (ps := ["held", "things", "many"]) fun _ _ _ _ _ _ us hl => match us, hl with | [_, _, _], _ => rfl⟩
  have f__law_names := fun_mk (st := s__law_names_) lo__law_names co__law_names kp__law_names
  have F__law_names : Fn K mg "_law_names" s__law_names_ _ _ ["held", "many"] := ⟨f__law_names, PySem.W.mg_of X G ad__law_names, f__law_names.binds (ps := ["held", "many"]) fun _ _ _ _ _ _ us hl => match us, hl with | [_, _], _ => rfl⟩
  have f__law_minutes := fun_mk (st := s__law_minutes_) lo__law_minutes co__law_minutes kp__law_minutes
  have F__law_minutes : Fn K mg "_law_minutes" s__law_minutes_ _ _ ["held"] := ⟨f__law_minutes, PySem.W.mg_of X G ad__law_minutes, f__law_minutes.binds (ps := ["held"]) fun _ _ _ _ _ _ us hl => match us, hl with | [_], _ => rfl⟩
  have f__law_town := fun_mk (st := s__law_town_) lo__law_town co__law_town kp__law_town
  have F__law_town : Fn K mg "_law_town" s__law_town_ _ _ ["held"] := ⟨f__law_town, PySem.W.mg_of X G ad__law_town, f__law_town.binds (ps := ["held"]) fun _ _ _ _ _ _ us hl => match us, hl with | [_], _ => rfl⟩
  have f__law_shut := fun_mk (st := s__law_shut_) lo__law_shut co__law_shut kp__law_shut
  have F__law_shut : Fn K mg "_law_shut" s__law_shut_ _ _ ["held", "town"] := ⟨f__law_shut, PySem.W.mg_of X G ad__law_shut, f__law_shut.binds (ps := ["held", "town"]) fun _ _ _ _ _ _ us hl => match us, hl with | [_, _], _ => rfl⟩
  have f__law_chart := fun_mk (st := s__law_chart_) lo__law_chart co__law_chart kp__law_chart
  have F__law_chart : Fn K mg "_law_chart" s__law_chart_ _ _ ["town", "shut"] := ⟨f__law_chart, PySem.W.mg_of X G ad__law_chart, f__law_chart.binds (ps := ["town", "shut"]) fun _ _ _ _ _ _ us hl => match us, hl with | [_, _], _ => rfl⟩
  have f__law_near := fun_mk (st := s__law_near_) lo__law_near co__law_near kp__law_near
  have F__law_near : Fn K mg "_law_near" s__law_near_ _ _ ["town", "chart", "place"] := ⟨f__law_near, PySem.W.mg_of X G ad__law_near, f__law_near.binds (ps := ["town", "chart", "place"]) fun _ _ _ _ _ _ us hl => match us, hl with | [_, _, _], _ => rfl⟩
  have f__law_stage := fun_mk (st := s__law_stage_) lo__law_stage co__law_stage kp__law_stage
  have F__law_stage : Fn K mg "_law_stage" s__law_stage_ _ _ ["town", "chart"] := ⟨f__law_stage, PySem.W.mg_of X G ad__law_stage, f__law_stage.binds (ps := ["town", "chart"]) fun _ _ _ _ _ _ us hl => match us, hl with | [_, _], _ => rfl⟩
  have f__law_left := fun_mk (st := s__law_left_) lo__law_left co__law_left kp__law_left
  have F__law_left : Fn K mg "_law_left" s__law_left_ _ _ ["stage", "posts"] := ⟨f__law_left, PySem.W.mg_of X G ad__law_left, f__law_left.binds (ps := ["stage", "posts"]) fun _ _ _ _ _ _ us hl => match us, hl with | [_, _], _ => rfl⟩
  have f__law_sets := fun_mk (st := s__law_sets_) lo__law_sets co__law_sets kp__law_sets
  have F__law_sets : Fn K mg "_law_sets" s__law_sets_ _ _ ["many", "size"] := ⟨f__law_sets, PySem.W.mg_of X G ad__law_sets, f__law_sets.binds (ps := ["many", "size"]) fun _ _ _ _ _ _ us hl => match us, hl with | [_, _], _ => rfl⟩
  have f__law_fewest := fun_mk (st := s__law_fewest_) lo__law_fewest co__law_fewest kp__law_fewest
  have F__law_fewest : Fn K mg "_law_fewest" s__law_fewest_ _ _ ["stage"] := ⟨f__law_fewest, PySem.W.mg_of X G ad__law_fewest, f__law_fewest.binds (ps := ["stage"]) fun _ _ _ _ _ _ us hl => match us, hl with | [_], _ => rfl⟩
  have f__law_covering := fun_mk (st := s__law_covering_) lo__law_covering co__law_covering kp__law_covering
  have F__law_covering : Fn K mg "_law_covering" s__law_covering_ _ _ ["held", "stage"] := ⟨f__law_covering, PySem.W.mg_of X G ad__law_covering, f__law_covering.binds (ps := ["held", "stage"]) fun _ _ _ _ _ _ us hl => match us, hl with | [_, _], _ => rfl⟩
  have f__law_is_node := fun_mk (st := s__law_is_node_) lo__law_is_node co__law_is_node kp__law_is_node
  have F__law_is_node : Fn K mg "_law_is_node" s__law_is_node_ _ _ ["thing", "word", "many"] := ⟨f__law_is_node, PySem.W.mg_of X G ad__law_is_node, f__law_is_node.binds (ps := ["thing", "word", "many"]) fun _ _ _ _ _ _ us hl => match us, hl with | [_, _, _], _ => rfl⟩
  have f__law_are_just := fun_mk (st := s__law_are_just_) lo__law_are_just co__law_are_just kp__law_are_just
  have F__law_are_just : Fn K mg "_law_are_just" s__law_are_just_ _ _ ["heads", "due"] := ⟨f__law_are_just, PySem.W.mg_of X G ad__law_are_just, f__law_are_just.binds (ps := ["heads", "due"]) fun _ _ _ _ _ _ us hl => match us, hl with | [_, _], _ => rfl⟩
  have f__law_shows := fun_mk (st := s__law_shows_) lo__law_shows co__law_shows kp__law_shows
  have F__law_shows : Fn K mg "_law_shows" s__law_shows_ _ _ ["stage", "posts", "tree", "taken"] := ⟨f__law_shows, PySem.W.mg_of X G ad__law_shows, f__law_shows.binds (ps := ["stage", "posts", "tree", "taken"]) fun _ _ _ _ _ _ us hl => match us, hl with | [_, _, _, _], _ => rfl⟩
  have f__law_tree_by := fun_mk (st := s__law_tree_by_) lo__law_tree_by co__law_tree_by kp__law_tree_by
  have F__law_tree_by : Fn K mg "_law_tree_by" s__law_tree_by_ _ _ ["held", "stage", "many", "taken"] := ⟨f__law_tree_by, PySem.W.mg_of X G ad__law_tree_by, f__law_tree_by.binds (ps := ["held", "stage", "many", "taken"]) fun _ _ _ _ _ _ us hl => match us, hl with | [_, _, _, _], _ => rfl⟩
  have f_law := fun_mk (st := s_law_) lo_law co_law kp_law
  have F_law : Fn K mg "law" s_law_ _ _ ["script"] := ⟨f_law, PySem.W.mg_of X G ad_law, f_law.binds (ps := ["script"]) fun _ _ _ _ _ _ us hl => match us, hl with | [_], _ => rfl⟩
  have cl_Near : Cls K c_Near := ⟨pg_Near, hd_Near, po_Near, sa_Near⟩
  have M_Near : L2.Mk K c_Near a_Near____init__ := ⟨mk_Near, fi_Near____init__, ifn_Near____init__, kc_Near⟩
  have cl_StandChoices : Cls K c_StandChoices := ⟨pg_StandChoices, hd_StandChoices, po_StandChoices, sa_StandChoices⟩
  have M_StandChoices : L2.Mk K c_StandChoices a_StandChoices____init__ := ⟨mk_StandChoices, fi_StandChoices____init__, ifn_StandChoices____init__, kc_StandChoices⟩
  refine ⟨PySem.W.fnOf "law" "law" (defArgs s_law_) (defBody s_law_) (defScope s_law_) .none kV_law dc_law pm_law an_law cd_law ct_law, [("_are_branches", tc__are_branches, P__are_branches), ("_is_by", tc__is_by, P__is_by)], ?_, fun s v => .of_eq rfl, fun b _ _ TBs => ?_⟩
  · intro t ht
    simp only [List.mem_cons, List.not_mem_nil, or_false] at ht
    rcases ht with rfl | rfl
    · exact ⟨re__are_branches, ⟨_, _, _, PySem.W.mg_of X G ad__are_branches, lo__are_branches, rfl, rfl⟩, tb__are_branches⟩
    · exact ⟨re__is_by, ⟨_, _, _, PySem.W.mg_of X G ad__is_by, lo__is_by, rfl, rfl⟩, tb__is_by⟩
  have TB__are_branches := TBs ("_are_branches", tc__are_branches, P__are_branches) (by simp)
  have TB__is_by := TBs ("_is_by", tc__is_by, P__is_by) (by simp)
  have k__is_near := dv__is_near (P := P) (w := w) (b := b) (mg := mg) (sp := spNear1) F__is_near  (by intro vs H Q E h; first | (obtain ⟨_, rfl, _⟩ := h; rfl; done) | (obtain ⟨_, _, rfl, _⟩ := h; rfl; done) | (obtain ⟨_, _, _, rfl, _⟩ := h; rfl; done) | (obtain ⟨_, _, _, _, rfl, _⟩ := h; rfl; done) | (obtain ⟨_, _, _, _, _, rfl, _⟩ := h; rfl; done) | (obtain ⟨_, _, _, _, _, _, rfl, _⟩ := h; rfl; done) | (obtain ⟨_, _, _, _, _, _, _, rfl, _⟩ := h; rfl; done) | (obtain ⟨_, _, _, _, _, _, _, _, rfl, _⟩ := h; rfl; done) | (obtain ⟨_, _, _, _, _, _, _, _, _, rfl, _⟩ := h; rfl; done) | (obtain ⟨_, _, _, _, _, _, _, _, _, _, rfl, _⟩ := h; rfl; done) | (obtain ⟨_, _, _, _, _, _, _, _, _, _, _, rfl, _⟩ := h; rfl; done) | (obtain ⟨_, _, _, _, _, _, _, _, _, _, _, _, rfl, _⟩ := h; rfl; done) | (obtain ⟨_, _, _, _, _, _, _, _, _, _, _, _, _, rfl, _⟩ := h; rfl; done) | (obtain ⟨_, _, _, _, _, _, _, _, _, _, _, _, _, _, rfl, _⟩ := h; rfl; done) | (rcases h with h | h <;> first | (obtain ⟨_, rfl, _⟩ := h; rfl; done) | (obtain ⟨_, _, rfl, _⟩ := h; rfl; done) | (obtain ⟨_, _, _, rfl, _⟩ := h; rfl; done) | (obtain ⟨_, _, _, _, rfl, _⟩ := h; rfl; done) | (obtain ⟨_, _, _, _, _, rfl, _⟩ := h; rfl; done) | (obtain ⟨_, _, _, _, _, _, rfl, _⟩ := h; rfl; done) | (obtain ⟨_, _, _, _, _, _, _, rfl, _⟩ := h; rfl; done) | (obtain ⟨_, _, _, _, _, _, _, _, rfl, _⟩ := h; rfl; done) | (obtain ⟨_, _, _, _, _, _, _, _, _, rfl, _⟩ := h; rfl; done) | (obtain ⟨_, _, _, _, _, _, _, _, _, _, rfl, _⟩ := h; rfl; done) | (obtain ⟨_, _, _, _, _, _, _, _, _, _, _, rfl, _⟩ := h; rfl; done) | (obtain ⟨_, _, _, _, _, _, _, _, _, _, _, _, rfl, _⟩ := h; rfl; done) | (obtain ⟨_, _, _, _, _, _, _, _, _, _, _, _, _, rfl, _⟩ := h; rfl; done) | (obtain ⟨_, _, _, _, _, _, _, _, _, _, _, _, _, _, rfl, _⟩ := h; rfl; done))) (rd_near1 K)
  have k_reached := dv_reached (P := P) (w := w) (b := b) (mg := mg) (sp := spReached) F_reached (PySem.W.mg_none_of X G no_zip) F__is_near k__is_near (by intro vs H Q E h; first | (obtain ⟨_, rfl, _⟩ := h; rfl; done) | (obtain ⟨_, _, rfl, _⟩ := h; rfl; done) | (obtain ⟨_, _, _, rfl, _⟩ := h; rfl; done) | (obtain ⟨_, _, _, _, rfl, _⟩ := h; rfl; done) | (obtain ⟨_, _, _, _, _, rfl, _⟩ := h; rfl; done) | (obtain ⟨_, _, _, _, _, _, rfl, _⟩ := h; rfl; done) | (obtain ⟨_, _, _, _, _, _, _, rfl, _⟩ := h; rfl; done) | (obtain ⟨_, _, _, _, _, _, _, _, rfl, _⟩ := h; rfl; done) | (obtain ⟨_, _, _, _, _, _, _, _, _, rfl, _⟩ := h; rfl; done) | (obtain ⟨_, _, _, _, _, _, _, _, _, _, rfl, _⟩ := h; rfl; done) | (obtain ⟨_, _, _, _, _, _, _, _, _, _, _, rfl, _⟩ := h; rfl; done) | (obtain ⟨_, _, _, _, _, _, _, _, _, _, _, _, rfl, _⟩ := h; rfl; done) | (obtain ⟨_, _, _, _, _, _, _, _, _, _, _, _, _, rfl, _⟩ := h; rfl; done) | (obtain ⟨_, _, _, _, _, _, _, _, _, _, _, _, _, _, rfl, _⟩ := h; rfl; done) | (rcases h with h | h <;> first | (obtain ⟨_, rfl, _⟩ := h; rfl; done) | (obtain ⟨_, _, rfl, _⟩ := h; rfl; done) | (obtain ⟨_, _, _, rfl, _⟩ := h; rfl; done) | (obtain ⟨_, _, _, _, rfl, _⟩ := h; rfl; done) | (obtain ⟨_, _, _, _, _, rfl, _⟩ := h; rfl; done) | (obtain ⟨_, _, _, _, _, _, rfl, _⟩ := h; rfl; done) | (obtain ⟨_, _, _, _, _, _, _, rfl, _⟩ := h; rfl; done) | (obtain ⟨_, _, _, _, _, _, _, _, rfl, _⟩ := h; rfl; done) | (obtain ⟨_, _, _, _, _, _, _, _, _, rfl, _⟩ := h; rfl; done) | (obtain ⟨_, _, _, _, _, _, _, _, _, _, rfl, _⟩ := h; rfl; done) | (obtain ⟨_, _, _, _, _, _, _, _, _, _, _, rfl, _⟩ := h; rfl; done) | (obtain ⟨_, _, _, _, _, _, _, _, _, _, _, _, rfl, _⟩ := h; rfl; done) | (obtain ⟨_, _, _, _, _, _, _, _, _, _, _, _, _, rfl, _⟩ := h; rfl; done) | (obtain ⟨_, _, _, _, _, _, _, _, _, _, _, _, _, _, rfl, _⟩ := h; rfl; done))) (rd_reached K)
  have k_bare := dv_bare (P := P) (w := w) (b := b) (mg := mg) (sp := spBare) F_bare F_reached k_reached (by intro vs H Q E h; first | (obtain ⟨_, rfl, _⟩ := h; rfl; done) | (obtain ⟨_, _, rfl, _⟩ := h; rfl; done) | (obtain ⟨_, _, _, rfl, _⟩ := h; rfl; done) | (obtain ⟨_, _, _, _, rfl, _⟩ := h; rfl; done) | (obtain ⟨_, _, _, _, _, rfl, _⟩ := h; rfl; done) | (obtain ⟨_, _, _, _, _, _, rfl, _⟩ := h; rfl; done) | (obtain ⟨_, _, _, _, _, _, _, rfl, _⟩ := h; rfl; done) | (obtain ⟨_, _, _, _, _, _, _, _, rfl, _⟩ := h; rfl; done) | (obtain ⟨_, _, _, _, _, _, _, _, _, rfl, _⟩ := h; rfl; done) | (obtain ⟨_, _, _, _, _, _, _, _, _, _, rfl, _⟩ := h; rfl; done) | (obtain ⟨_, _, _, _, _, _, _, _, _, _, _, rfl, _⟩ := h; rfl; done) | (obtain ⟨_, _, _, _, _, _, _, _, _, _, _, _, rfl, _⟩ := h; rfl; done) | (obtain ⟨_, _, _, _, _, _, _, _, _, _, _, _, _, rfl, _⟩ := h; rfl; done) | (obtain ⟨_, _, _, _, _, _, _, _, _, _, _, _, _, _, rfl, _⟩ := h; rfl; done) | (rcases h with h | h <;> first | (obtain ⟨_, rfl, _⟩ := h; rfl; done) | (obtain ⟨_, _, rfl, _⟩ := h; rfl; done) | (obtain ⟨_, _, _, rfl, _⟩ := h; rfl; done) | (obtain ⟨_, _, _, _, rfl, _⟩ := h; rfl; done) | (obtain ⟨_, _, _, _, _, rfl, _⟩ := h; rfl; done) | (obtain ⟨_, _, _, _, _, _, rfl, _⟩ := h; rfl; done) | (obtain ⟨_, _, _, _, _, _, _, rfl, _⟩ := h; rfl; done) | (obtain ⟨_, _, _, _, _, _, _, _, rfl, _⟩ := h; rfl; done) | (obtain ⟨_, _, _, _, _, _, _, _, _, rfl, _⟩ := h; rfl; done) | (obtain ⟨_, _, _, _, _, _, _, _, _, _, rfl, _⟩ := h; rfl; done) | (obtain ⟨_, _, _, _, _, _, _, _, _, _, _, rfl, _⟩ := h; rfl; done) | (obtain ⟨_, _, _, _, _, _, _, _, _, _, _, _, rfl, _⟩ := h; rfl; done) | (obtain ⟨_, _, _, _, _, _, _, _, _, _, _, _, _, rfl, _⟩ := h; rfl; done) | (obtain ⟨_, _, _, _, _, _, _, _, _, _, _, _, _, _, rfl, _⟩ := h; rfl; done))) (rd_bare K)
  have k_lost := dv_lost (P := P) (w := w) (b := b) (mg := mg) (sp := spLost) F_lost F_bare k_bare (by intro vs H Q E h; first | (obtain ⟨_, rfl, _⟩ := h; rfl; done) | (obtain ⟨_, _, rfl, _⟩ := h; rfl; done) | (obtain ⟨_, _, _, rfl, _⟩ := h; rfl; done) | (obtain ⟨_, _, _, _, rfl, _⟩ := h; rfl; done) | (obtain ⟨_, _, _, _, _, rfl, _⟩ := h; rfl; done) | (obtain ⟨_, _, _, _, _, _, rfl, _⟩ := h; rfl; done) | (obtain ⟨_, _, _, _, _, _, _, rfl, _⟩ := h; rfl; done) | (obtain ⟨_, _, _, _, _, _, _, _, rfl, _⟩ := h; rfl; done) | (obtain ⟨_, _, _, _, _, _, _, _, _, rfl, _⟩ := h; rfl; done) | (obtain ⟨_, _, _, _, _, _, _, _, _, _, rfl, _⟩ := h; rfl; done) | (obtain ⟨_, _, _, _, _, _, _, _, _, _, _, rfl, _⟩ := h; rfl; done) | (obtain ⟨_, _, _, _, _, _, _, _, _, _, _, _, rfl, _⟩ := h; rfl; done) | (obtain ⟨_, _, _, _, _, _, _, _, _, _, _, _, _, rfl, _⟩ := h; rfl; done) | (obtain ⟨_, _, _, _, _, _, _, _, _, _, _, _, _, _, rfl, _⟩ := h; rfl; done) | (rcases h with h | h <;> first | (obtain ⟨_, rfl, _⟩ := h; rfl; done) | (obtain ⟨_, _, rfl, _⟩ := h; rfl; done) | (obtain ⟨_, _, _, rfl, _⟩ := h; rfl; done) | (obtain ⟨_, _, _, _, rfl, _⟩ := h; rfl; done) | (obtain ⟨_, _, _, _, _, rfl, _⟩ := h; rfl; done) | (obtain ⟨_, _, _, _, _, _, rfl, _⟩ := h; rfl; done) | (obtain ⟨_, _, _, _, _, _, _, rfl, _⟩ := h; rfl; done) | (obtain ⟨_, _, _, _, _, _, _, _, rfl, _⟩ := h; rfl; done) | (obtain ⟨_, _, _, _, _, _, _, _, _, rfl, _⟩ := h; rfl; done) | (obtain ⟨_, _, _, _, _, _, _, _, _, _, rfl, _⟩ := h; rfl; done) | (obtain ⟨_, _, _, _, _, _, _, _, _, _, _, rfl, _⟩ := h; rfl; done) | (obtain ⟨_, _, _, _, _, _, _, _, _, _, _, _, rfl, _⟩ := h; rfl; done) | (obtain ⟨_, _, _, _, _, _, _, _, _, _, _, _, _, rfl, _⟩ := h; rfl; done) | (obtain ⟨_, _, _, _, _, _, _, _, _, _, _, _, _, _, rfl, _⟩ := h; rfl; done))) (rd_lost K)
  have k_Near____init__ := dv_Near____init__ (P := P) (w := w) (b := b) (mg := mg) (sp := spNearNew c_Near) F_Near____init__ F_lost k_lost F_reached k_reached (by intro vs H Q E h; first | (obtain ⟨_, rfl, _⟩ := h; rfl; done) | (obtain ⟨_, _, rfl, _⟩ := h; rfl; done) | (obtain ⟨_, _, _, rfl, _⟩ := h; rfl; done) | (obtain ⟨_, _, _, _, rfl, _⟩ := h; rfl; done) | (obtain ⟨_, _, _, _, _, rfl, _⟩ := h; rfl; done) | (obtain ⟨_, _, _, _, _, _, rfl, _⟩ := h; rfl; done) | (obtain ⟨_, _, _, _, _, _, _, rfl, _⟩ := h; rfl; done) | (obtain ⟨_, _, _, _, _, _, _, _, rfl, _⟩ := h; rfl; done) | (obtain ⟨_, _, _, _, _, _, _, _, _, rfl, _⟩ := h; rfl; done) | (obtain ⟨_, _, _, _, _, _, _, _, _, _, rfl, _⟩ := h; rfl; done) | (obtain ⟨_, _, _, _, _, _, _, _, _, _, _, rfl, _⟩ := h; rfl; done) | (obtain ⟨_, _, _, _, _, _, _, _, _, _, _, _, rfl, _⟩ := h; rfl; done) | (obtain ⟨_, _, _, _, _, _, _, _, _, _, _, _, _, rfl, _⟩ := h; rfl; done) | (obtain ⟨_, _, _, _, _, _, _, _, _, _, _, _, _, _, rfl, _⟩ := h; rfl; done) | (rcases h with h | h <;> first | (obtain ⟨_, rfl, _⟩ := h; rfl; done) | (obtain ⟨_, _, rfl, _⟩ := h; rfl; done) | (obtain ⟨_, _, _, rfl, _⟩ := h; rfl; done) | (obtain ⟨_, _, _, _, rfl, _⟩ := h; rfl; done) | (obtain ⟨_, _, _, _, _, rfl, _⟩ := h; rfl; done) | (obtain ⟨_, _, _, _, _, _, rfl, _⟩ := h; rfl; done) | (obtain ⟨_, _, _, _, _, _, _, rfl, _⟩ := h; rfl; done) | (obtain ⟨_, _, _, _, _, _, _, _, rfl, _⟩ := h; rfl; done) | (obtain ⟨_, _, _, _, _, _, _, _, _, rfl, _⟩ := h; rfl; done) | (obtain ⟨_, _, _, _, _, _, _, _, _, _, rfl, _⟩ := h; rfl; done) | (obtain ⟨_, _, _, _, _, _, _, _, _, _, _, rfl, _⟩ := h; rfl; done) | (obtain ⟨_, _, _, _, _, _, _, _, _, _, _, _, rfl, _⟩ := h; rfl; done) | (obtain ⟨_, _, _, _, _, _, _, _, _, _, _, _, _, rfl, _⟩ := h; rfl; done) | (obtain ⟨_, _, _, _, _, _, _, _, _, _, _, _, _, _, rfl, _⟩ := h; rfl; done))) (rd_nearNew K cl_Near na_Near_goals na_Near_table)
  have k_Near__reaches := dv_Near__reaches (P := P) (w := w) (b := b) (mg := mg) (sp := spReaches c_Near) F_Near__reaches  (by intro vs H Q E h; first | (obtain ⟨_, rfl, _⟩ := h; rfl; done) | (obtain ⟨_, _, rfl, _⟩ := h; rfl; done) | (obtain ⟨_, _, _, rfl, _⟩ := h; rfl; done) | (obtain ⟨_, _, _, _, rfl, _⟩ := h; rfl; done) | (obtain ⟨_, _, _, _, _, rfl, _⟩ := h; rfl; done) | (obtain ⟨_, _, _, _, _, _, rfl, _⟩ := h; rfl; done) | (obtain ⟨_, _, _, _, _, _, _, rfl, _⟩ := h; rfl; done) | (obtain ⟨_, _, _, _, _, _, _, _, rfl, _⟩ := h; rfl; done) | (obtain ⟨_, _, _, _, _, _, _, _, _, rfl, _⟩ := h; rfl; done) | (obtain ⟨_, _, _, _, _, _, _, _, _, _, rfl, _⟩ := h; rfl; done) | (obtain ⟨_, _, _, _, _, _, _, _, _, _, _, rfl, _⟩ := h; rfl; done) | (obtain ⟨_, _, _, _, _, _, _, _, _, _, _, _, rfl, _⟩ := h; rfl; done) | (obtain ⟨_, _, _, _, _, _, _, _, _, _, _, _, _, rfl, _⟩ := h; rfl; done) | (obtain ⟨_, _, _, _, _, _, _, _, _, _, _, _, _, _, rfl, _⟩ := h; rfl; done) | (rcases h with h | h <;> first | (obtain ⟨_, rfl, _⟩ := h; rfl; done) | (obtain ⟨_, _, rfl, _⟩ := h; rfl; done) | (obtain ⟨_, _, _, rfl, _⟩ := h; rfl; done) | (obtain ⟨_, _, _, _, rfl, _⟩ := h; rfl; done) | (obtain ⟨_, _, _, _, _, rfl, _⟩ := h; rfl; done) | (obtain ⟨_, _, _, _, _, _, rfl, _⟩ := h; rfl; done) | (obtain ⟨_, _, _, _, _, _, _, rfl, _⟩ := h; rfl; done) | (obtain ⟨_, _, _, _, _, _, _, _, rfl, _⟩ := h; rfl; done) | (obtain ⟨_, _, _, _, _, _, _, _, _, rfl, _⟩ := h; rfl; done) | (obtain ⟨_, _, _, _, _, _, _, _, _, _, rfl, _⟩ := h; rfl; done) | (obtain ⟨_, _, _, _, _, _, _, _, _, _, _, rfl, _⟩ := h; rfl; done) | (obtain ⟨_, _, _, _, _, _, _, _, _, _, _, _, rfl, _⟩ := h; rfl; done) | (obtain ⟨_, _, _, _, _, _, _, _, _, _, _, _, _, rfl, _⟩ := h; rfl; done) | (obtain ⟨_, _, _, _, _, _, _, _, _, _, _, _, _, _, rfl, _⟩ := h; rfl; done))) (rd_reaches K cl_Near na_Near_table)
  have k_Near__lacking := dv_Near__lacking (P := P) (w := w) (b := b) (mg := mg) (sp := spNearLack c_Near) F_Near__lacking  (by intro vs H Q E h; first | (obtain ⟨_, rfl, _⟩ := h; rfl; done) | (obtain ⟨_, _, rfl, _⟩ := h; rfl; done) | (obtain ⟨_, _, _, rfl, _⟩ := h; rfl; done) | (obtain ⟨_, _, _, _, rfl, _⟩ := h; rfl; done) | (obtain ⟨_, _, _, _, _, rfl, _⟩ := h; rfl; done) | (obtain ⟨_, _, _, _, _, _, rfl, _⟩ := h; rfl; done) | (obtain ⟨_, _, _, _, _, _, _, rfl, _⟩ := h; rfl; done) | (obtain ⟨_, _, _, _, _, _, _, _, rfl, _⟩ := h; rfl; done) | (obtain ⟨_, _, _, _, _, _, _, _, _, rfl, _⟩ := h; rfl; done) | (obtain ⟨_, _, _, _, _, _, _, _, _, _, rfl, _⟩ := h; rfl; done) | (obtain ⟨_, _, _, _, _, _, _, _, _, _, _, rfl, _⟩ := h; rfl; done) | (obtain ⟨_, _, _, _, _, _, _, _, _, _, _, _, rfl, _⟩ := h; rfl; done) | (obtain ⟨_, _, _, _, _, _, _, _, _, _, _, _, _, rfl, _⟩ := h; rfl; done) | (obtain ⟨_, _, _, _, _, _, _, _, _, _, _, _, _, _, rfl, _⟩ := h; rfl; done) | (rcases h with h | h <;> first | (obtain ⟨_, rfl, _⟩ := h; rfl; done) | (obtain ⟨_, _, rfl, _⟩ := h; rfl; done) | (obtain ⟨_, _, _, rfl, _⟩ := h; rfl; done) | (obtain ⟨_, _, _, _, rfl, _⟩ := h; rfl; done) | (obtain ⟨_, _, _, _, _, rfl, _⟩ := h; rfl; done) | (obtain ⟨_, _, _, _, _, _, rfl, _⟩ := h; rfl; done) | (obtain ⟨_, _, _, _, _, _, _, rfl, _⟩ := h; rfl; done) | (obtain ⟨_, _, _, _, _, _, _, _, rfl, _⟩ := h; rfl; done) | (obtain ⟨_, _, _, _, _, _, _, _, _, rfl, _⟩ := h; rfl; done) | (obtain ⟨_, _, _, _, _, _, _, _, _, _, rfl, _⟩ := h; rfl; done) | (obtain ⟨_, _, _, _, _, _, _, _, _, _, _, rfl, _⟩ := h; rfl; done) | (obtain ⟨_, _, _, _, _, _, _, _, _, _, _, _, rfl, _⟩ := h; rfl; done) | (obtain ⟨_, _, _, _, _, _, _, _, _, _, _, _, _, rfl, _⟩ := h; rfl; done) | (obtain ⟨_, _, _, _, _, _, _, _, _, _, _, _, _, _, rfl, _⟩ := h; rfl; done))) (rd_nearLack K cl_Near na_Near_goals na_Near_table)
  have k_StandChoices____init__ := dv_StandChoices____init__ (P := P) (w := w) (b := b) (mg := mg) (sp := spStdNew c_Near c_StandChoices) F_StandChoices____init__ cl_Near F_Near____init__.b k_Near____init__ M_Near (PySem.W.mg_of X G ad_Near) (by intro vs H Q E h; first | (obtain ⟨_, rfl, _⟩ := h; rfl; done) | (obtain ⟨_, _, rfl, _⟩ := h; rfl; done) | (obtain ⟨_, _, _, rfl, _⟩ := h; rfl; done) | (obtain ⟨_, _, _, _, rfl, _⟩ := h; rfl; done) | (obtain ⟨_, _, _, _, _, rfl, _⟩ := h; rfl; done) | (obtain ⟨_, _, _, _, _, _, rfl, _⟩ := h; rfl; done) | (obtain ⟨_, _, _, _, _, _, _, rfl, _⟩ := h; rfl; done) | (obtain ⟨_, _, _, _, _, _, _, _, rfl, _⟩ := h; rfl; done) | (obtain ⟨_, _, _, _, _, _, _, _, _, rfl, _⟩ := h; rfl; done) | (obtain ⟨_, _, _, _, _, _, _, _, _, _, rfl, _⟩ := h; rfl; done) | (obtain ⟨_, _, _, _, _, _, _, _, _, _, _, rfl, _⟩ := h; rfl; done) | (obtain ⟨_, _, _, _, _, _, _, _, _, _, _, _, rfl, _⟩ := h; rfl; done) | (obtain ⟨_, _, _, _, _, _, _, _, _, _, _, _, _, rfl, _⟩ := h; rfl; done) | (obtain ⟨_, _, _, _, _, _, _, _, _, _, _, _, _, _, rfl, _⟩ := h; rfl; done) | (rcases h with h | h <;> first | (obtain ⟨_, rfl, _⟩ := h; rfl; done) | (obtain ⟨_, _, rfl, _⟩ := h; rfl; done) | (obtain ⟨_, _, _, rfl, _⟩ := h; rfl; done) | (obtain ⟨_, _, _, _, rfl, _⟩ := h; rfl; done) | (obtain ⟨_, _, _, _, _, rfl, _⟩ := h; rfl; done) | (obtain ⟨_, _, _, _, _, _, rfl, _⟩ := h; rfl; done) | (obtain ⟨_, _, _, _, _, _, _, rfl, _⟩ := h; rfl; done) | (obtain ⟨_, _, _, _, _, _, _, _, rfl, _⟩ := h; rfl; done) | (obtain ⟨_, _, _, _, _, _, _, _, _, rfl, _⟩ := h; rfl; done) | (obtain ⟨_, _, _, _, _, _, _, _, _, _, rfl, _⟩ := h; rfl; done) | (obtain ⟨_, _, _, _, _, _, _, _, _, _, _, rfl, _⟩ := h; rfl; done) | (obtain ⟨_, _, _, _, _, _, _, _, _, _, _, _, rfl, _⟩ := h; rfl; done) | (obtain ⟨_, _, _, _, _, _, _, _, _, _, _, _, _, rfl, _⟩ := h; rfl; done) | (obtain ⟨_, _, _, _, _, _, _, _, _, _, _, _, _, _, rfl, _⟩ := h; rfl; done))) (rd_stdNew K cl_StandChoices na_StandChoices_near na_StandChoices_stands)
  have k_StandChoices__lacking := dv_StandChoices__lacking (P := P) (w := w) (b := b) (mg := mg) (sp := spStdLack c_Near c_StandChoices) F_StandChoices__lacking cl_Near F_Near__lacking.b k_Near__lacking me_Near__lacking (by intro vs H Q E h; first | (obtain ⟨_, rfl, _⟩ := h; rfl; done) | (obtain ⟨_, _, rfl, _⟩ := h; rfl; done) | (obtain ⟨_, _, _, rfl, _⟩ := h; rfl; done) | (obtain ⟨_, _, _, _, rfl, _⟩ := h; rfl; done) | (obtain ⟨_, _, _, _, _, rfl, _⟩ := h; rfl; done) | (obtain ⟨_, _, _, _, _, _, rfl, _⟩ := h; rfl; done) | (obtain ⟨_, _, _, _, _, _, _, rfl, _⟩ := h; rfl; done) | (obtain ⟨_, _, _, _, _, _, _, _, rfl, _⟩ := h; rfl; done) | (obtain ⟨_, _, _, _, _, _, _, _, _, rfl, _⟩ := h; rfl; done) | (obtain ⟨_, _, _, _, _, _, _, _, _, _, rfl, _⟩ := h; rfl; done) | (obtain ⟨_, _, _, _, _, _, _, _, _, _, _, rfl, _⟩ := h; rfl; done) | (obtain ⟨_, _, _, _, _, _, _, _, _, _, _, _, rfl, _⟩ := h; rfl; done) | (obtain ⟨_, _, _, _, _, _, _, _, _, _, _, _, _, rfl, _⟩ := h; rfl; done) | (obtain ⟨_, _, _, _, _, _, _, _, _, _, _, _, _, _, rfl, _⟩ := h; rfl; done) | (rcases h with h | h <;> first | (obtain ⟨_, rfl, _⟩ := h; rfl; done) | (obtain ⟨_, _, rfl, _⟩ := h; rfl; done) | (obtain ⟨_, _, _, rfl, _⟩ := h; rfl; done) | (obtain ⟨_, _, _, _, rfl, _⟩ := h; rfl; done) | (obtain ⟨_, _, _, _, _, rfl, _⟩ := h; rfl; done) | (obtain ⟨_, _, _, _, _, _, rfl, _⟩ := h; rfl; done) | (obtain ⟨_, _, _, _, _, _, _, rfl, _⟩ := h; rfl; done) | (obtain ⟨_, _, _, _, _, _, _, _, rfl, _⟩ := h; rfl; done) | (obtain ⟨_, _, _, _, _, _, _, _, _, rfl, _⟩ := h; rfl; done) | (obtain ⟨_, _, _, _, _, _, _, _, _, _, rfl, _⟩ := h; rfl; done) | (obtain ⟨_, _, _, _, _, _, _, _, _, _, _, rfl, _⟩ := h; rfl; done) | (obtain ⟨_, _, _, _, _, _, _, _, _, _, _, _, rfl, _⟩ := h; rfl; done) | (obtain ⟨_, _, _, _, _, _, _, _, _, _, _, _, _, rfl, _⟩ := h; rfl; done) | (obtain ⟨_, _, _, _, _, _, _, _, _, _, _, _, _, _, rfl, _⟩ := h; rfl; done))) (rd_stdLack K cl_StandChoices na_StandChoices_near)
  have k_StandChoices__options := dv_StandChoices__options (P := P) (w := w) (b := b) (mg := mg) (sp := spOptions c_Near c_StandChoices) F_StandChoices__options cl_Near F_Near__reaches.b k_Near__reaches me_Near__reaches (by intro vs H Q E h; first | (obtain ⟨_, rfl, _⟩ := h; rfl; done) | (obtain ⟨_, _, rfl, _⟩ := h; rfl; done) | (obtain ⟨_, _, _, rfl, _⟩ := h; rfl; done) | (obtain ⟨_, _, _, _, rfl, _⟩ := h; rfl; done) | (obtain ⟨_, _, _, _, _, rfl, _⟩ := h; rfl; done) | (obtain ⟨_, _, _, _, _, _, rfl, _⟩ := h; rfl; done) | (obtain ⟨_, _, _, _, _, _, _, rfl, _⟩ := h; rfl; done) | (obtain ⟨_, _, _, _, _, _, _, _, rfl, _⟩ := h; rfl; done) | (obtain ⟨_, _, _, _, _, _, _, _, _, rfl, _⟩ := h; rfl; done) | (obtain ⟨_, _, _, _, _, _, _, _, _, _, rfl, _⟩ := h; rfl; done) | (obtain ⟨_, _, _, _, _, _, _, _, _, _, _, rfl, _⟩ := h; rfl; done) | (obtain ⟨_, _, _, _, _, _, _, _, _, _, _, _, rfl, _⟩ := h; rfl; done) | (obtain ⟨_, _, _, _, _, _, _, _, _, _, _, _, _, rfl, _⟩ := h; rfl; done) | (obtain ⟨_, _, _, _, _, _, _, _, _, _, _, _, _, _, rfl, _⟩ := h; rfl; done) | (rcases h with h | h <;> first | (obtain ⟨_, rfl, _⟩ := h; rfl; done) | (obtain ⟨_, _, rfl, _⟩ := h; rfl; done) | (obtain ⟨_, _, _, rfl, _⟩ := h; rfl; done) | (obtain ⟨_, _, _, _, rfl, _⟩ := h; rfl; done) | (obtain ⟨_, _, _, _, _, rfl, _⟩ := h; rfl; done) | (obtain ⟨_, _, _, _, _, _, rfl, _⟩ := h; rfl; done) | (obtain ⟨_, _, _, _, _, _, _, rfl, _⟩ := h; rfl; done) | (obtain ⟨_, _, _, _, _, _, _, _, rfl, _⟩ := h; rfl; done) | (obtain ⟨_, _, _, _, _, _, _, _, _, rfl, _⟩ := h; rfl; done) | (obtain ⟨_, _, _, _, _, _, _, _, _, _, rfl, _⟩ := h; rfl; done) | (obtain ⟨_, _, _, _, _, _, _, _, _, _, _, rfl, _⟩ := h; rfl; done) | (obtain ⟨_, _, _, _, _, _, _, _, _, _, _, _, rfl, _⟩ := h; rfl; done) | (obtain ⟨_, _, _, _, _, _, _, _, _, _, _, _, _, rfl, _⟩ := h; rfl; done) | (obtain ⟨_, _, _, _, _, _, _, _, _, _, _, _, _, _, rfl, _⟩ := h; rfl; done))) (rd_options K cl_StandChoices na_StandChoices_near na_StandChoices_stands)
  have k_StandChoices__ordered := dv_StandChoices__ordered (P := P) (w := w) (b := b) (mg := mg) (sp := spOrdered c_Near c_StandChoices) F_StandChoices__ordered (PySem.W.mg_none_of X G no_sorted) (by intro vs H Q E h; first | (obtain ⟨_, rfl, _⟩ := h; rfl; done) | (obtain ⟨_, _, rfl, _⟩ := h; rfl; done) | (obtain ⟨_, _, _, rfl, _⟩ := h; rfl; done) | (obtain ⟨_, _, _, _, rfl, _⟩ := h; rfl; done) | (obtain ⟨_, _, _, _, _, rfl, _⟩ := h; rfl; done) | (obtain ⟨_, _, _, _, _, _, rfl, _⟩ := h; rfl; done) | (obtain ⟨_, _, _, _, _, _, _, rfl, _⟩ := h; rfl; done) | (obtain ⟨_, _, _, _, _, _, _, _, rfl, _⟩ := h; rfl; done) | (obtain ⟨_, _, _, _, _, _, _, _, _, rfl, _⟩ := h; rfl; done) | (obtain ⟨_, _, _, _, _, _, _, _, _, _, rfl, _⟩ := h; rfl; done) | (obtain ⟨_, _, _, _, _, _, _, _, _, _, _, rfl, _⟩ := h; rfl; done) | (obtain ⟨_, _, _, _, _, _, _, _, _, _, _, _, rfl, _⟩ := h; rfl; done) | (obtain ⟨_, _, _, _, _, _, _, _, _, _, _, _, _, rfl, _⟩ := h; rfl; done) | (obtain ⟨_, _, _, _, _, _, _, _, _, _, _, _, _, _, rfl, _⟩ := h; rfl; done) | (rcases h with h | h <;> first | (obtain ⟨_, rfl, _⟩ := h; rfl; done) | (obtain ⟨_, _, rfl, _⟩ := h; rfl; done) | (obtain ⟨_, _, _, rfl, _⟩ := h; rfl; done) | (obtain ⟨_, _, _, _, rfl, _⟩ := h; rfl; done) | (obtain ⟨_, _, _, _, _, rfl, _⟩ := h; rfl; done) | (obtain ⟨_, _, _, _, _, _, rfl, _⟩ := h; rfl; done) | (obtain ⟨_, _, _, _, _, _, _, rfl, _⟩ := h; rfl; done) | (obtain ⟨_, _, _, _, _, _, _, _, rfl, _⟩ := h; rfl; done) | (obtain ⟨_, _, _, _, _, _, _, _, _, rfl, _⟩ := h; rfl; done) | (obtain ⟨_, _, _, _, _, _, _, _, _, _, rfl, _⟩ := h; rfl; done) | (obtain ⟨_, _, _, _, _, _, _, _, _, _, _, rfl, _⟩ := h; rfl; done) | (obtain ⟨_, _, _, _, _, _, _, _, _, _, _, _, rfl, _⟩ := h; rfl; done) | (obtain ⟨_, _, _, _, _, _, _, _, _, _, _, _, _, rfl, _⟩ := h; rfl; done) | (obtain ⟨_, _, _, _, _, _, _, _, _, _, _, _, _, _, rfl, _⟩ := h; rfl; done))) (rd_ordered K cl_StandChoices na_StandChoices_stands)
  have k__is_node := dv__is_node (P := P) (w := w) (b := b) (mg := mg) (sp := spNodeX) F__is_node (PySem.W.mg_none_of X G no_isinstance) (PySem.W.mg_none_of X G no_tuple) (PySem.W.mg_none_of X G no_len) (by intro vs H Q E h; first | (obtain ⟨_, rfl, _⟩ := h; rfl; done) | (obtain ⟨_, _, rfl, _⟩ := h; rfl; done) | (obtain ⟨_, _, _, rfl, _⟩ := h; rfl; done) | (obtain ⟨_, _, _, _, rfl, _⟩ := h; rfl; done) | (obtain ⟨_, _, _, _, _, rfl, _⟩ := h; rfl; done) | (obtain ⟨_, _, _, _, _, _, rfl, _⟩ := h; rfl; done) | (obtain ⟨_, _, _, _, _, _, _, rfl, _⟩ := h; rfl; done) | (obtain ⟨_, _, _, _, _, _, _, _, rfl, _⟩ := h; rfl; done) | (obtain ⟨_, _, _, _, _, _, _, _, _, rfl, _⟩ := h; rfl; done) | (obtain ⟨_, _, _, _, _, _, _, _, _, _, rfl, _⟩ := h; rfl; done) | (obtain ⟨_, _, _, _, _, _, _, _, _, _, _, rfl, _⟩ := h; rfl; done) | (obtain ⟨_, _, _, _, _, _, _, _, _, _, _, _, rfl, _⟩ := h; rfl; done) | (obtain ⟨_, _, _, _, _, _, _, _, _, _, _, _, _, rfl, _⟩ := h; rfl; done) | (obtain ⟨_, _, _, _, _, _, _, _, _, _, _, _, _, _, rfl, _⟩ := h; rfl; done) | (rcases h with h | h <;> first | (obtain ⟨_, rfl, _⟩ := h; rfl; done) | (obtain ⟨_, _, rfl, _⟩ := h; rfl; done) | (obtain ⟨_, _, _, rfl, _⟩ := h; rfl; done) | (obtain ⟨_, _, _, _, rfl, _⟩ := h; rfl; done) | (obtain ⟨_, _, _, _, _, rfl, _⟩ := h; rfl; done) | (obtain ⟨_, _, _, _, _, _, rfl, _⟩ := h; rfl; done) | (obtain ⟨_, _, _, _, _, _, _, rfl, _⟩ := h; rfl; done) | (obtain ⟨_, _, _, _, _, _, _, _, rfl, _⟩ := h; rfl; done) | (obtain ⟨_, _, _, _, _, _, _, _, _, rfl, _⟩ := h; rfl; done) | (obtain ⟨_, _, _, _, _, _, _, _, _, _, rfl, _⟩ := h; rfl; done) | (obtain ⟨_, _, _, _, _, _, _, _, _, _, _, rfl, _⟩ := h; rfl; done) | (obtain ⟨_, _, _, _, _, _, _, _, _, _, _, _, rfl, _⟩ := h; rfl; done) | (obtain ⟨_, _, _, _, _, _, _, _, _, _, _, _, _, rfl, _⟩ := h; rfl; done) | (obtain ⟨_, _, _, _, _, _, _, _, _, _, _, _, _, _, rfl, _⟩ := h; rfl; done))) (rd_nodeX K)
  have k__is_bare := dv__is_bare (P := P) (w := w) (b := b) (mg := mg) (sp := spBareX c_Near c_StandChoices) F__is_bare cl_StandChoices F_StandChoices__lacking.b k_StandChoices__lacking (PySem.W.mg_none_of X G no_len) F_StandChoices__options.b k_StandChoices__options me_StandChoices__lacking me_StandChoices__options (by intro vs H Q E h; first | (obtain ⟨_, rfl, _⟩ := h; rfl; done) | (obtain ⟨_, _, rfl, _⟩ := h; rfl; done) | (obtain ⟨_, _, _, rfl, _⟩ := h; rfl; done) | (obtain ⟨_, _, _, _, rfl, _⟩ := h; rfl; done) | (obtain ⟨_, _, _, _, _, rfl, _⟩ := h; rfl; done) | (obtain ⟨_, _, _, _, _, _, rfl, _⟩ := h; rfl; done) | (obtain ⟨_, _, _, _, _, _, _, rfl, _⟩ := h; rfl; done) | (obtain ⟨_, _, _, _, _, _, _, _, rfl, _⟩ := h; rfl; done) | (obtain ⟨_, _, _, _, _, _, _, _, _, rfl, _⟩ := h; rfl; done) | (obtain ⟨_, _, _, _, _, _, _, _, _, _, rfl, _⟩ := h; rfl; done) | (obtain ⟨_, _, _, _, _, _, _, _, _, _, _, rfl, _⟩ := h; rfl; done) | (obtain ⟨_, _, _, _, _, _, _, _, _, _, _, _, rfl, _⟩ := h; rfl; done) | (obtain ⟨_, _, _, _, _, _, _, _, _, _, _, _, _, rfl, _⟩ := h; rfl; done) | (obtain ⟨_, _, _, _, _, _, _, _, _, _, _, _, _, _, rfl, _⟩ := h; rfl; done) | (rcases h with h | h <;> first | (obtain ⟨_, rfl, _⟩ := h; rfl; done) | (obtain ⟨_, _, rfl, _⟩ := h; rfl; done) | (obtain ⟨_, _, _, rfl, _⟩ := h; rfl; done) | (obtain ⟨_, _, _, _, rfl, _⟩ := h; rfl; done) | (obtain ⟨_, _, _, _, _, rfl, _⟩ := h; rfl; done) | (obtain ⟨_, _, _, _, _, _, rfl, _⟩ := h; rfl; done) | (obtain ⟨_, _, _, _, _, _, _, rfl, _⟩ := h; rfl; done) | (obtain ⟨_, _, _, _, _, _, _, _, rfl, _⟩ := h; rfl; done) | (obtain ⟨_, _, _, _, _, _, _, _, _, rfl, _⟩ := h; rfl; done) | (obtain ⟨_, _, _, _, _, _, _, _, _, _, rfl, _⟩ := h; rfl; done) | (obtain ⟨_, _, _, _, _, _, _, _, _, _, _, rfl, _⟩ := h; rfl; done) | (obtain ⟨_, _, _, _, _, _, _, _, _, _, _, _, rfl, _⟩ := h; rfl; done) | (obtain ⟨_, _, _, _, _, _, _, _, _, _, _, _, _, rfl, _⟩ := h; rfl; done) | (obtain ⟨_, _, _, _, _, _, _, _, _, _, _, _, _, _, rfl, _⟩ := h; rfl; done))) (rd_bareX K)
  have k__are_branches := dv__are_branches (P := P) (w := w) (b := b) (mg := mg) (sp := spBrs encS [P__are_branches, P__is_by]) F__are_branches rfl TB__are_branches (PySem.W.mg_none_of X G no_isinstance) (PySem.W.mg_none_of X G no_tuple) (PySem.W.mg_none_of X G no_len) (PySem.W.mg_none_of X G no_all) (by intro vs H Q E h; first | (obtain ⟨_, rfl, _⟩ := h; rfl; done) | (obtain ⟨_, _, rfl, _⟩ := h; rfl; done) | (obtain ⟨_, _, _, rfl, _⟩ := h; rfl; done) | (obtain ⟨_, _, _, _, rfl, _⟩ := h; rfl; done) | (obtain ⟨_, _, _, _, _, rfl, _⟩ := h; rfl; done) | (obtain ⟨_, _, _, _, _, _, rfl, _⟩ := h; rfl; done) | (obtain ⟨_, _, _, _, _, _, _, rfl, _⟩ := h; rfl; done) | (obtain ⟨_, _, _, _, _, _, _, _, rfl, _⟩ := h; rfl; done) | (obtain ⟨_, _, _, _, _, _, _, _, _, rfl, _⟩ := h; rfl; done) | (obtain ⟨_, _, _, _, _, _, _, _, _, _, rfl, _⟩ := h; rfl; done) | (obtain ⟨_, _, _, _, _, _, _, _, _, _, _, rfl, _⟩ := h; rfl; done) | (obtain ⟨_, _, _, _, _, _, _, _, _, _, _, _, rfl, _⟩ := h; rfl; done) | (obtain ⟨_, _, _, _, _, _, _, _, _, _, _, _, _, rfl, _⟩ := h; rfl; done) | (obtain ⟨_, _, _, _, _, _, _, _, _, _, _, _, _, _, rfl, _⟩ := h; rfl; done) | (rcases h with h | h <;> first | (obtain ⟨_, rfl, _⟩ := h; rfl; done) | (obtain ⟨_, _, rfl, _⟩ := h; rfl; done) | (obtain ⟨_, _, _, rfl, _⟩ := h; rfl; done) | (obtain ⟨_, _, _, _, rfl, _⟩ := h; rfl; done) | (obtain ⟨_, _, _, _, _, rfl, _⟩ := h; rfl; done) | (obtain ⟨_, _, _, _, _, _, rfl, _⟩ := h; rfl; done) | (obtain ⟨_, _, _, _, _, _, _, rfl, _⟩ := h; rfl; done) | (obtain ⟨_, _, _, _, _, _, _, _, rfl, _⟩ := h; rfl; done) | (obtain ⟨_, _, _, _, _, _, _, _, _, rfl, _⟩ := h; rfl; done) | (obtain ⟨_, _, _, _, _, _, _, _, _, _, rfl, _⟩ := h; rfl; done) | (obtain ⟨_, _, _, _, _, _, _, _, _, _, _, rfl, _⟩ := h; rfl; done) | (obtain ⟨_, _, _, _, _, _, _, _, _, _, _, _, rfl, _⟩ := h; rfl; done) | (obtain ⟨_, _, _, _, _, _, _, _, _, _, _, _, _, rfl, _⟩ := h; rfl; done) | (obtain ⟨_, _, _, _, _, _, _, _, _, _, _, _, _, _, rfl, _⟩ := h; rfl; done))) (rd_brs K (enc := encS) encS_inj encS_ne (L := [P__are_branches, P__is_by]) (P := P__are_branches) (by simp))
  have k__is_full := dv__is_full (P := P) (w := w) (b := b) (mg := mg) (sp := spFullX c_Near c_StandChoices) F__is_full cl_StandChoices (PySem.W.mg_none_of X G no_len) F_StandChoices__lacking.b k_StandChoices__lacking F_StandChoices__ordered.b k_StandChoices__ordered me_StandChoices__lacking me_StandChoices__ordered (by intro vs H Q E h; first | (obtain ⟨_, rfl, _⟩ := h; rfl; done) | (obtain ⟨_, _, rfl, _⟩ := h; rfl; done) | (obtain ⟨_, _, _, rfl, _⟩ := h; rfl; done) | (obtain ⟨_, _, _, _, rfl, _⟩ := h; rfl; done) | (obtain ⟨_, _, _, _, _, rfl, _⟩ := h; rfl; done) | (obtain ⟨_, _, _, _, _, _, rfl, _⟩ := h; rfl; done) | (obtain ⟨_, _, _, _, _, _, _, rfl, _⟩ := h; rfl; done) | (obtain ⟨_, _, _, _, _, _, _, _, rfl, _⟩ := h; rfl; done) | (obtain ⟨_, _, _, _, _, _, _, _, _, rfl, _⟩ := h; rfl; done) | (obtain ⟨_, _, _, _, _, _, _, _, _, _, rfl, _⟩ := h; rfl; done) | (obtain ⟨_, _, _, _, _, _, _, _, _, _, _, rfl, _⟩ := h; rfl; done) | (obtain ⟨_, _, _, _, _, _, _, _, _, _, _, _, rfl, _⟩ := h; rfl; done) | (obtain ⟨_, _, _, _, _, _, _, _, _, _, _, _, _, rfl, _⟩ := h; rfl; done) | (obtain ⟨_, _, _, _, _, _, _, _, _, _, _, _, _, _, rfl, _⟩ := h; rfl; done) | (rcases h with h | h <;> first | (obtain ⟨_, rfl, _⟩ := h; rfl; done) | (obtain ⟨_, _, rfl, _⟩ := h; rfl; done) | (obtain ⟨_, _, _, rfl, _⟩ := h; rfl; done) | (obtain ⟨_, _, _, _, rfl, _⟩ := h; rfl; done) | (obtain ⟨_, _, _, _, _, rfl, _⟩ := h; rfl; done) | (obtain ⟨_, _, _, _, _, _, rfl, _⟩ := h; rfl; done) | (obtain ⟨_, _, _, _, _, _, _, rfl, _⟩ := h; rfl; done) | (obtain ⟨_, _, _, _, _, _, _, _, rfl, _⟩ := h; rfl; done) | (obtain ⟨_, _, _, _, _, _, _, _, _, rfl, _⟩ := h; rfl; done) | (obtain ⟨_, _, _, _, _, _, _, _, _, _, rfl, _⟩ := h; rfl; done) | (obtain ⟨_, _, _, _, _, _, _, _, _, _, _, rfl, _⟩ := h; rfl; done) | (obtain ⟨_, _, _, _, _, _, _, _, _, _, _, _, rfl, _⟩ := h; rfl; done) | (obtain ⟨_, _, _, _, _, _, _, _, _, _, _, _, _, rfl, _⟩ := h; rfl; done) | (obtain ⟨_, _, _, _, _, _, _, _, _, _, _, _, _, _, rfl, _⟩ := h; rfl; done))) (rd_fullX K)
  have kk__shows : ∀ m : Nat, Keeps P w K mg b CX0 (4 + 3 * m) a__shows (PySem.W.fnOf "_shows" "_shows" (defArgs s__shows_) (defBody s__shows_) (defScope s__shows_) .none kV__shows dc__shows pm__shows an__shows cd__shows ct__shows) ["choices", "most", "least", "chosen", "thing"] (spShowsP K [P__are_branches, P__is_by] c_Near c_StandChoices m) := by
    intro m
    induction m with
    | zero => exact ⟨fun _ _ _ _ h => h.elim, fun _ _ _ _ _ _ _ _ _ _ _ _ _ h => h.elim⟩
    | succ m ih =>
      have k__is_by := dv__is_by (P := P) (w := w) (b := b) (mg := mg) (sp := spIsByP K [P__are_branches, P__is_by] c_Near c_StandChoices m) F__is_by rfl TB__is_by cl_StandChoices F_StandChoices__lacking.b k_StandChoices__lacking (PySem.W.mg_none_of X G no_len) F__are_branches k__are_branches F_StandChoices__options.b k_StandChoices__options (PySem.W.mg_none_of X G no_all) (Nat.le_add_right _ _) F__shows ih me_StandChoices__lacking me_StandChoices__options (by intro vs H Q E h; first | (obtain ⟨_, rfl, _⟩ := h; rfl; done) | (obtain ⟨_, _, rfl, _⟩ := h; rfl; done) | (obtain ⟨_, _, _, rfl, _⟩ := h; rfl; done) | (obtain ⟨_, _, _, _, rfl, _⟩ := h; rfl; done) | (obtain ⟨_, _, _, _, _, rfl, _⟩ := h; rfl; done) | (obtain ⟨_, _, _, _, _, _, rfl, _⟩ := h; rfl; done) | (obtain ⟨_, _, _, _, _, _, _, rfl, _⟩ := h; rfl; done) | (obtain ⟨_, _, _, _, _, _, _, _, rfl, _⟩ := h; rfl; done) | (obtain ⟨_, _, _, _, _, _, _, _, _, rfl, _⟩ := h; rfl; done) | (obtain ⟨_, _, _, _, _, _, _, _, _, _, rfl, _⟩ := h; rfl; done) | (obtain ⟨_, _, _, _, _, _, _, _, _, _, _, rfl, _⟩ := h; rfl; done) | (obtain ⟨_, _, _, _, _, _, _, _, _, _, _, _, rfl, _⟩ := h; rfl; done) | (obtain ⟨_, _, _, _, _, _, _, _, _, _, _, _, _, rfl, _⟩ := h; rfl; done) | (obtain ⟨_, _, _, _, _, _, _, _, _, _, _, _, _, _, rfl, _⟩ := h; rfl; done) | (rcases h with h | h <;> first | (obtain ⟨_, rfl, _⟩ := h; rfl; done) | (obtain ⟨_, _, rfl, _⟩ := h; rfl; done) | (obtain ⟨_, _, _, rfl, _⟩ := h; rfl; done) | (obtain ⟨_, _, _, _, rfl, _⟩ := h; rfl; done) | (obtain ⟨_, _, _, _, _, rfl, _⟩ := h; rfl; done) | (obtain ⟨_, _, _, _, _, _, rfl, _⟩ := h; rfl; done) | (obtain ⟨_, _, _, _, _, _, _, rfl, _⟩ := h; rfl; done) | (obtain ⟨_, _, _, _, _, _, _, _, rfl, _⟩ := h; rfl; done) | (obtain ⟨_, _, _, _, _, _, _, _, _, rfl, _⟩ := h; rfl; done) | (obtain ⟨_, _, _, _, _, _, _, _, _, _, rfl, _⟩ := h; rfl; done) | (obtain ⟨_, _, _, _, _, _, _, _, _, _, _, rfl, _⟩ := h; rfl; done) | (obtain ⟨_, _, _, _, _, _, _, _, _, _, _, _, rfl, _⟩ := h; rfl; done) | (obtain ⟨_, _, _, _, _, _, _, _, _, _, _, _, _, rfl, _⟩ := h; rfl; done) | (obtain ⟨_, _, _, _, _, _, _, _, _, _, _, _, _, _, rfl, _⟩ := h; rfl; done))) (rd_isby K (L := [P__are_branches, P__is_by]) (P := P__is_by) (CN := c_Near) (CS := c_StandChoices) (by simp) m)
      exact dv__shows (P := P) (w := w) (b := b) (mg := mg) (sp := spShowsP K [P__are_branches, P__is_by] c_Near c_StandChoices (m + 1)) F__shows F__is_node k__is_node F__is_bare k__is_bare (lv := 4 + 3 * m) (Nat.le_add_right _ _) F__is_by k__is_by F__is_full k__is_full (by intro vs H Q E h; first | (obtain ⟨_, rfl, _⟩ := h; rfl; done) | (obtain ⟨_, _, rfl, _⟩ := h; rfl; done) | (obtain ⟨_, _, _, rfl, _⟩ := h; rfl; done) | (obtain ⟨_, _, _, _, rfl, _⟩ := h; rfl; done) | (obtain ⟨_, _, _, _, _, rfl, _⟩ := h; rfl; done) | (obtain ⟨_, _, _, _, _, _, rfl, _⟩ := h; rfl; done) | (obtain ⟨_, _, _, _, _, _, _, rfl, _⟩ := h; rfl; done) | (obtain ⟨_, _, _, _, _, _, _, _, rfl, _⟩ := h; rfl; done) | (obtain ⟨_, _, _, _, _, _, _, _, _, rfl, _⟩ := h; rfl; done) | (obtain ⟨_, _, _, _, _, _, _, _, _, _, rfl, _⟩ := h; rfl; done) | (obtain ⟨_, _, _, _, _, _, _, _, _, _, _, rfl, _⟩ := h; rfl; done) | (obtain ⟨_, _, _, _, _, _, _, _, _, _, _, _, rfl, _⟩ := h; rfl; done) | (obtain ⟨_, _, _, _, _, _, _, _, _, _, _, _, _, rfl, _⟩ := h; rfl; done) | (obtain ⟨_, _, _, _, _, _, _, _, _, _, _, _, _, _, rfl, _⟩ := h; rfl; done) | (rcases h with h | h <;> first | (obtain ⟨_, rfl, _⟩ := h; rfl; done) | (obtain ⟨_, _, rfl, _⟩ := h; rfl; done) | (obtain ⟨_, _, _, rfl, _⟩ := h; rfl; done) | (obtain ⟨_, _, _, _, rfl, _⟩ := h; rfl; done) | (obtain ⟨_, _, _, _, _, rfl, _⟩ := h; rfl; done) | (obtain ⟨_, _, _, _, _, _, rfl, _⟩ := h; rfl; done) | (obtain ⟨_, _, _, _, _, _, _, rfl, _⟩ := h; rfl; done) | (obtain ⟨_, _, _, _, _, _, _, _, rfl, _⟩ := h; rfl; done) | (obtain ⟨_, _, _, _, _, _, _, _, _, rfl, _⟩ := h; rfl; done) | (obtain ⟨_, _, _, _, _, _, _, _, _, _, rfl, _⟩ := h; rfl; done) | (obtain ⟨_, _, _, _, _, _, _, _, _, _, _, rfl, _⟩ := h; rfl; done) | (obtain ⟨_, _, _, _, _, _, _, _, _, _, _, _, rfl, _⟩ := h; rfl; done) | (obtain ⟨_, _, _, _, _, _, _, _, _, _, _, _, _, rfl, _⟩ := h; rfl; done) | (obtain ⟨_, _, _, _, _, _, _, _, _, _, _, _, _, _, rfl, _⟩ := h; rfl; done))) (rd_showsP K (L := [P__are_branches, P__is_by]) (CN := c_Near) (CS := c_StandChoices) m)
  have k__shows := kk__shows 7
  have k_shows_posts := dv_shows_posts (P := P) (w := w) (b := b) (mg := mg) (sp := spShowsPosts K [P__are_branches, P__is_by]) F_shows_posts cl_StandChoices F_StandChoices____init__.b k_StandChoices____init__ F_StandChoices__ordered.b k_StandChoices__ordered F__shows k__shows (PySem.W.mg_none_of X G no_len) M_StandChoices (PySem.W.mg_of X G ad_StandChoices) me_StandChoices__ordered (by intro vs H Q E h; first | (obtain ⟨_, rfl, _⟩ := h; rfl; done) | (obtain ⟨_, _, rfl, _⟩ := h; rfl; done) | (obtain ⟨_, _, _, rfl, _⟩ := h; rfl; done) | (obtain ⟨_, _, _, _, rfl, _⟩ := h; rfl; done) | (obtain ⟨_, _, _, _, _, rfl, _⟩ := h; rfl; done) | (obtain ⟨_, _, _, _, _, _, rfl, _⟩ := h; rfl; done) | (obtain ⟨_, _, _, _, _, _, _, rfl, _⟩ := h; rfl; done) | (obtain ⟨_, _, _, _, _, _, _, _, rfl, _⟩ := h; rfl; done) | (obtain ⟨_, _, _, _, _, _, _, _, _, rfl, _⟩ := h; rfl; done) | (obtain ⟨_, _, _, _, _, _, _, _, _, _, rfl, _⟩ := h; rfl; done) | (obtain ⟨_, _, _, _, _, _, _, _, _, _, _, rfl, _⟩ := h; rfl; done) | (obtain ⟨_, _, _, _, _, _, _, _, _, _, _, _, rfl, _⟩ := h; rfl; done) | (obtain ⟨_, _, _, _, _, _, _, _, _, _, _, _, _, rfl, _⟩ := h; rfl; done) | (obtain ⟨_, _, _, _, _, _, _, _, _, _, _, _, _, _, rfl, _⟩ := h; rfl; done) | (rcases h with h | h <;> first | (obtain ⟨_, rfl, _⟩ := h; rfl; done) | (obtain ⟨_, _, rfl, _⟩ := h; rfl; done) | (obtain ⟨_, _, _, rfl, _⟩ := h; rfl; done) | (obtain ⟨_, _, _, _, rfl, _⟩ := h; rfl; done) | (obtain ⟨_, _, _, _, _, rfl, _⟩ := h; rfl; done) | (obtain ⟨_, _, _, _, _, _, rfl, _⟩ := h; rfl; done) | (obtain ⟨_, _, _, _, _, _, _, rfl, _⟩ := h; rfl; done) | (obtain ⟨_, _, _, _, _, _, _, _, rfl, _⟩ := h; rfl; done) | (obtain ⟨_, _, _, _, _, _, _, _, _, rfl, _⟩ := h; rfl; done) | (obtain ⟨_, _, _, _, _, _, _, _, _, _, rfl, _⟩ := h; rfl; done) | (obtain ⟨_, _, _, _, _, _, _, _, _, _, _, rfl, _⟩ := h; rfl; done) | (obtain ⟨_, _, _, _, _, _, _, _, _, _, _, _, rfl, _⟩ := h; rfl; done) | (obtain ⟨_, _, _, _, _, _, _, _, _, _, _, _, _, rfl, _⟩ := h; rfl; done) | (obtain ⟨_, _, _, _, _, _, _, _, _, _, _, _, _, _, rfl, _⟩ := h; rfl; done))) (rd_showsPosts K (L := [P__are_branches, P__is_by]) (CN := c_Near) (CS := c_StandChoices))
  have k__law_held := dv__law_held (P := P) (w := w) (b := b) (mg := mg) (sp := spHeld K) F__law_held (PySem.W.mg_none_of X G no_list) (by intro vs H Q E h; first | (obtain ⟨_, rfl, _⟩ := h; rfl; done) | (obtain ⟨_, _, rfl, _⟩ := h; rfl; done) | (obtain ⟨_, _, _, rfl, _⟩ := h; rfl; done) | (obtain ⟨_, _, _, _, rfl, _⟩ := h; rfl; done) | (obtain ⟨_, _, _, _, _, rfl, _⟩ := h; rfl; done) | (obtain ⟨_, _, _, _, _, _, rfl, _⟩ := h; rfl; done) | (obtain ⟨_, _, _, _, _, _, _, rfl, _⟩ := h; rfl; done) | (obtain ⟨_, _, _, _, _, _, _, _, rfl, _⟩ := h; rfl; done) | (obtain ⟨_, _, _, _, _, _, _, _, _, rfl, _⟩ := h; rfl; done) | (obtain ⟨_, _, _, _, _, _, _, _, _, _, rfl, _⟩ := h; rfl; done) | (obtain ⟨_, _, _, _, _, _, _, _, _, _, _, rfl, _⟩ := h; rfl; done) | (obtain ⟨_, _, _, _, _, _, _, _, _, _, _, _, rfl, _⟩ := h; rfl; done) | (obtain ⟨_, _, _, _, _, _, _, _, _, _, _, _, _, rfl, _⟩ := h; rfl; done) | (obtain ⟨_, _, _, _, _, _, _, _, _, _, _, _, _, _, rfl, _⟩ := h; rfl; done) | (rcases h with h | h <;> first | (obtain ⟨_, rfl, _⟩ := h; rfl; done) | (obtain ⟨_, _, rfl, _⟩ := h; rfl; done) | (obtain ⟨_, _, _, rfl, _⟩ := h; rfl; done) | (obtain ⟨_, _, _, _, rfl, _⟩ := h; rfl; done) | (obtain ⟨_, _, _, _, _, rfl, _⟩ := h; rfl; done) | (obtain ⟨_, _, _, _, _, _, rfl, _⟩ := h; rfl; done) | (obtain ⟨_, _, _, _, _, _, _, rfl, _⟩ := h; rfl; done) | (obtain ⟨_, _, _, _, _, _, _, _, rfl, _⟩ := h; rfl; done) | (obtain ⟨_, _, _, _, _, _, _, _, _, rfl, _⟩ := h; rfl; done) | (obtain ⟨_, _, _, _, _, _, _, _, _, _, rfl, _⟩ := h; rfl; done) | (obtain ⟨_, _, _, _, _, _, _, _, _, _, _, rfl, _⟩ := h; rfl; done) | (obtain ⟨_, _, _, _, _, _, _, _, _, _, _, _, rfl, _⟩ := h; rfl; done) | (obtain ⟨_, _, _, _, _, _, _, _, _, _, _, _, _, rfl, _⟩ := h; rfl; done) | (obtain ⟨_, _, _, _, _, _, _, _, _, _, _, _, _, _, rfl, _⟩ := h; rfl; done))) (rd_held K)
  have k__law_draw := dv__law_draw (P := P) (w := w) (b := b) (mg := mg) (sp := spDraw) F__law_draw (PySem.W.mg_none_of X G no_len) (by intro vs H Q E h; first | (obtain ⟨_, rfl, _⟩ := h; rfl; done) | (obtain ⟨_, _, rfl, _⟩ := h; rfl; done) | (obtain ⟨_, _, _, rfl, _⟩ := h; rfl; done) | (obtain ⟨_, _, _, _, rfl, _⟩ := h; rfl; done) | (obtain ⟨_, _, _, _, _, rfl, _⟩ := h; rfl; done) | (obtain ⟨_, _, _, _, _, _, rfl, _⟩ := h; rfl; done) | (obtain ⟨_, _, _, _, _, _, _, rfl, _⟩ := h; rfl; done) | (obtain ⟨_, _, _, _, _, _, _, _, rfl, _⟩ := h; rfl; done) | (obtain ⟨_, _, _, _, _, _, _, _, _, rfl, _⟩ := h; rfl; done) | (obtain ⟨_, _, _, _, _, _, _, _, _, _, rfl, _⟩ := h; rfl; done) | (obtain ⟨_, _, _, _, _, _, _, _, _, _, _, rfl, _⟩ := h; rfl; done) | (obtain ⟨_, _, _, _, _, _, _, _, _, _, _, _, rfl, _⟩ := h; rfl; done) | (obtain ⟨_, _, _, _, _, _, _, _, _, _, _, _, _, rfl, _⟩ := h; rfl; done) | (obtain ⟨_, _, _, _, _, _, _, _, _, _, _, _, _, _, rfl, _⟩ := h; rfl; done) | (rcases h with h | h <;> first | (obtain ⟨_, rfl, _⟩ := h; rfl; done) | (obtain ⟨_, _, rfl, _⟩ := h; rfl; done) | (obtain ⟨_, _, _, rfl, _⟩ := h; rfl; done) | (obtain ⟨_, _, _, _, rfl, _⟩ := h; rfl; done) | (obtain ⟨_, _, _, _, _, rfl, _⟩ := h; rfl; done) | (obtain ⟨_, _, _, _, _, _, rfl, _⟩ := h; rfl; done) | (obtain ⟨_, _, _, _, _, _, _, rfl, _⟩ := h; rfl; done) | (obtain ⟨_, _, _, _, _, _, _, _, rfl, _⟩ := h; rfl; done) | (obtain ⟨_, _, _, _, _, _, _, _, _, rfl, _⟩ := h; rfl; done) | (obtain ⟨_, _, _, _, _, _, _, _, _, _, rfl, _⟩ := h; rfl; done) | (obtain ⟨_, _, _, _, _, _, _, _, _, _, _, rfl, _⟩ := h; rfl; done) | (obtain ⟨_, _, _, _, _, _, _, _, _, _, _, _, rfl, _⟩ := h; rfl; done) | (obtain ⟨_, _, _, _, _, _, _, _, _, _, _, _, _, rfl, _⟩ := h; rfl; done) | (obtain ⟨_, _, _, _, _, _, _, _, _, _, _, _, _, _, rfl, _⟩ := h; rfl; done))) (rd_draw K)
  have k__law_some := dv__law_some (P := P) (w := w) (b := b) (mg := mg) (sp := spSome) F__law_some (PySem.W.mg_none_of X G no_list) (PySem.W.mg_none_of X G no_range) F__law_draw k__law_draw (PySem.W.mg_none_of X G no_len) (by intro vs H Q E h; first | (obtain ⟨_, rfl, _⟩ := h; rfl; done) | (obtain ⟨_, _, rfl, _⟩ := h; rfl; done) | (obtain ⟨_, _, _, rfl, _⟩ := h; rfl; done) | (obtain ⟨_, _, _, _, rfl, _⟩ := h; rfl; done) | (obtain ⟨_, _, _, _, _, rfl, _⟩ := h; rfl; done) | (obtain ⟨_, _, _, _, _, _, rfl, _⟩ := h; rfl; done) | (obtain ⟨_, _, _, _, _, _, _, rfl, _⟩ := h; rfl; done) | (obtain ⟨_, _, _, _, _, _, _, _, rfl, _⟩ := h; rfl; done) | (obtain ⟨_, _, _, _, _, _, _, _, _, rfl, _⟩ := h; rfl; done) | (obtain ⟨_, _, _, _, _, _, _, _, _, _, rfl, _⟩ := h; rfl; done) | (obtain ⟨_, _, _, _, _, _, _, _, _, _, _, rfl, _⟩ := h; rfl; done) | (obtain ⟨_, _, _, _, _, _, _, _, _, _, _, _, rfl, _⟩ := h; rfl; done) | (obtain ⟨_, _, _, _, _, _, _, _, _, _, _, _, _, rfl, _⟩ := h; rfl; done) | (obtain ⟨_, _, _, _, _, _, _, _, _, _, _, _, _, _, rfl, _⟩ := h; rfl; done) | (rcases h with h | h <;> first | (obtain ⟨_, rfl, _⟩ := h; rfl; done) | (obtain ⟨_, _, rfl, _⟩ := h; rfl; done) | (obtain ⟨_, _, _, rfl, _⟩ := h; rfl; done) | (obtain ⟨_, _, _, _, rfl, _⟩ := h; rfl; done) | (obtain ⟨_, _, _, _, _, rfl, _⟩ := h; rfl; done) | (obtain ⟨_, _, _, _, _, _, rfl, _⟩ := h; rfl; done) | (obtain ⟨_, _, _, _, _, _, _, rfl, _⟩ := h; rfl; done) | (obtain ⟨_, _, _, _, _, _, _, _, rfl, _⟩ := h; rfl; done) | (obtain ⟨_, _, _, _, _, _, _, _, _, rfl, _⟩ := h; rfl; done) | (obtain ⟨_, _, _, _, _, _, _, _, _, _, rfl, _⟩ := h; rfl; done) | (obtain ⟨_, _, _, _, _, _, _, _, _, _, _, rfl, _⟩ := h; rfl; done) | (obtain ⟨_, _, _, _, _, _, _, _, _, _, _, _, rfl, _⟩ := h; rfl; done) | (obtain ⟨_, _, _, _, _, _, _, _, _, _, _, _, _, rfl, _⟩ := h; rfl; done) | (obtain ⟨_, _, _, _, _, _, _, _, _, _, _, _, _, _, rfl, _⟩ := h; rfl; done))) (rd_some K)
  have k__law_names := dv__law_names (P := P) (w := w) (b := b) (mg := mg) (sp := spNamesH) F__law_names F__law_draw k__law_draw (PySem.W.mg_none_of X G no_range) (PySem.W.mg_none_of X G no_int) (by intro vs H Q E h; first | (obtain ⟨_, rfl, _⟩ := h; rfl; done) | (obtain ⟨_, _, rfl, _⟩ := h; rfl; done) | (obtain ⟨_, _, _, rfl, _⟩ := h; rfl; done) | (obtain ⟨_, _, _, _, rfl, _⟩ := h; rfl; done) | (obtain ⟨_, _, _, _, _, rfl, _⟩ := h; rfl; done) | (obtain ⟨_, _, _, _, _, _, rfl, _⟩ := h; rfl; done) | (obtain ⟨_, _, _, _, _, _, _, rfl, _⟩ := h; rfl; done) | (obtain ⟨_, _, _, _, _, _, _, _, rfl, _⟩ := h; rfl; done) | (obtain ⟨_, _, _, _, _, _, _, _, _, rfl, _⟩ := h; rfl; done) | (obtain ⟨_, _, _, _, _, _, _, _, _, _, rfl, _⟩ := h; rfl; done) | (obtain ⟨_, _, _, _, _, _, _, _, _, _, _, rfl, _⟩ := h; rfl; done) | (obtain ⟨_, _, _, _, _, _, _, _, _, _, _, _, rfl, _⟩ := h; rfl; done) | (obtain ⟨_, _, _, _, _, _, _, _, _, _, _, _, _, rfl, _⟩ := h; rfl; done) | (obtain ⟨_, _, _, _, _, _, _, _, _, _, _, _, _, _, rfl, _⟩ := h; rfl; done) | (rcases h with h | h <;> first | (obtain ⟨_, rfl, _⟩ := h; rfl; done) | (obtain ⟨_, _, rfl, _⟩ := h; rfl; done) | (obtain ⟨_, _, _, rfl, _⟩ := h; rfl; done) | (obtain ⟨_, _, _, _, rfl, _⟩ := h; rfl; done) | (obtain ⟨_, _, _, _, _, rfl, _⟩ := h; rfl; done) | (obtain ⟨_, _, _, _, _, _, rfl, _⟩ := h; rfl; done) | (obtain ⟨_, _, _, _, _, _, _, rfl, _⟩ := h; rfl; done) | (obtain ⟨_, _, _, _, _, _, _, _, rfl, _⟩ := h; rfl; done) | (obtain ⟨_, _, _, _, _, _, _, _, _, rfl, _⟩ := h; rfl; done) | (obtain ⟨_, _, _, _, _, _, _, _, _, _, rfl, _⟩ := h; rfl; done) | (obtain ⟨_, _, _, _, _, _, _, _, _, _, _, rfl, _⟩ := h; rfl; done) | (obtain ⟨_, _, _, _, _, _, _, _, _, _, _, _, rfl, _⟩ := h; rfl; done) | (obtain ⟨_, _, _, _, _, _, _, _, _, _, _, _, _, rfl, _⟩ := h; rfl; done) | (obtain ⟨_, _, _, _, _, _, _, _, _, _, _, _, _, _, rfl, _⟩ := h; rfl; done))) (rd_namesH K)
  have k__law_minutes := dv__law_minutes (P := P) (w := w) (b := b) (mg := mg) (sp := spMinutes) F__law_minutes (PySem.W.mg_none_of X G no_range) F__law_draw k__law_draw (by intro vs H Q E h; first | (obtain ⟨_, rfl, _⟩ := h; rfl; done) | (obtain ⟨_, _, rfl, _⟩ := h; rfl; done) | (obtain ⟨_, _, _, rfl, _⟩ := h; rfl; done) | (obtain ⟨_, _, _, _, rfl, _⟩ := h; rfl; done) | (obtain ⟨_, _, _, _, _, rfl, _⟩ := h; rfl; done) | (obtain ⟨_, _, _, _, _, _, rfl, _⟩ := h; rfl; done) | (obtain ⟨_, _, _, _, _, _, _, rfl, _⟩ := h; rfl; done) | (obtain ⟨_, _, _, _, _, _, _, _, rfl, _⟩ := h; rfl; done) | (obtain ⟨_, _, _, _, _, _, _, _, _, rfl, _⟩ := h; rfl; done) | (obtain ⟨_, _, _, _, _, _, _, _, _, _, rfl, _⟩ := h; rfl; done) | (obtain ⟨_, _, _, _, _, _, _, _, _, _, _, rfl, _⟩ := h; rfl; done) | (obtain ⟨_, _, _, _, _, _, _, _, _, _, _, _, rfl, _⟩ := h; rfl; done) | (obtain ⟨_, _, _, _, _, _, _, _, _, _, _, _, _, rfl, _⟩ := h; rfl; done) | (obtain ⟨_, _, _, _, _, _, _, _, _, _, _, _, _, _, rfl, _⟩ := h; rfl; done) | (rcases h with h | h <;> first | (obtain ⟨_, rfl, _⟩ := h; rfl; done) | (obtain ⟨_, _, rfl, _⟩ := h; rfl; done) | (obtain ⟨_, _, _, rfl, _⟩ := h; rfl; done) | (obtain ⟨_, _, _, _, rfl, _⟩ := h; rfl; done) | (obtain ⟨_, _, _, _, _, rfl, _⟩ := h; rfl; done) | (obtain ⟨_, _, _, _, _, _, rfl, _⟩ := h; rfl; done) | (obtain ⟨_, _, _, _, _, _, _, rfl, _⟩ := h; rfl; done) | (obtain ⟨_, _, _, _, _, _, _, _, rfl, _⟩ := h; rfl; done) | (obtain ⟨_, _, _, _, _, _, _, _, _, rfl, _⟩ := h; rfl; done) | (obtain ⟨_, _, _, _, _, _, _, _, _, _, rfl, _⟩ := h; rfl; done) | (obtain ⟨_, _, _, _, _, _, _, _, _, _, _, rfl, _⟩ := h; rfl; done) | (obtain ⟨_, _, _, _, _, _, _, _, _, _, _, _, rfl, _⟩ := h; rfl; done) | (obtain ⟨_, _, _, _, _, _, _, _, _, _, _, _, _, rfl, _⟩ := h; rfl; done) | (obtain ⟨_, _, _, _, _, _, _, _, _, _, _, _, _, _, rfl, _⟩ := h; rfl; done))) (rd_minutes K)
  have k__law_town := dv__law_town (P := P) (w := w) (b := b) (mg := mg) (sp := spTownH) F__law_town F__law_draw k__law_draw F__law_names k__law_names (PySem.W.mg_none_of X G no_range) (PySem.W.mg_none_of X G no_int) (PySem.W.mg_none_of X G no_max) F__law_minutes k__law_minutes F__law_some k__law_some (PySem.W.mg_none_of X G no_min) (PySem.W.mg_none_of X G no_tuple) (by intro vs H Q E h; first | (obtain ⟨_, rfl, _⟩ := h; rfl; done) | (obtain ⟨_, _, rfl, _⟩ := h; rfl; done) | (obtain ⟨_, _, _, rfl, _⟩ := h; rfl; done) | (obtain ⟨_, _, _, _, rfl, _⟩ := h; rfl; done) | (obtain ⟨_, _, _, _, _, rfl, _⟩ := h; rfl; done) | (obtain ⟨_, _, _, _, _, _, rfl, _⟩ := h; rfl; done) | (obtain ⟨_, _, _, _, _, _, _, rfl, _⟩ := h; rfl; done) | (obtain ⟨_, _, _, _, _, _, _, _, rfl, _⟩ := h; rfl; done) | (obtain ⟨_, _, _, _, _, _, _, _, _, rfl, _⟩ := h; rfl; done) | (obtain ⟨_, _, _, _, _, _, _, _, _, _, rfl, _⟩ := h; rfl; done) | (obtain ⟨_, _, _, _, _, _, _, _, _, _, _, rfl, _⟩ := h; rfl; done) | (obtain ⟨_, _, _, _, _, _, _, _, _, _, _, _, rfl, _⟩ := h; rfl; done) | (obtain ⟨_, _, _, _, _, _, _, _, _, _, _, _, _, rfl, _⟩ := h; rfl; done) | (obtain ⟨_, _, _, _, _, _, _, _, _, _, _, _, _, _, rfl, _⟩ := h; rfl; done) | (rcases h with h | h <;> first | (obtain ⟨_, rfl, _⟩ := h; rfl; done) | (obtain ⟨_, _, rfl, _⟩ := h; rfl; done) | (obtain ⟨_, _, _, rfl, _⟩ := h; rfl; done) | (obtain ⟨_, _, _, _, rfl, _⟩ := h; rfl; done) | (obtain ⟨_, _, _, _, _, rfl, _⟩ := h; rfl; done) | (obtain ⟨_, _, _, _, _, _, rfl, _⟩ := h; rfl; done) | (obtain ⟨_, _, _, _, _, _, _, rfl, _⟩ := h; rfl; done) | (obtain ⟨_, _, _, _, _, _, _, _, rfl, _⟩ := h; rfl; done) | (obtain ⟨_, _, _, _, _, _, _, _, _, rfl, _⟩ := h; rfl; done) | (obtain ⟨_, _, _, _, _, _, _, _, _, _, rfl, _⟩ := h; rfl; done) | (obtain ⟨_, _, _, _, _, _, _, _, _, _, _, rfl, _⟩ := h; rfl; done) | (obtain ⟨_, _, _, _, _, _, _, _, _, _, _, _, rfl, _⟩ := h; rfl; done) | (obtain ⟨_, _, _, _, _, _, _, _, _, _, _, _, _, rfl, _⟩ := h; rfl; done) | (obtain ⟨_, _, _, _, _, _, _, _, _, _, _, _, _, _, rfl, _⟩ := h; rfl; done))) (rd_townH K)
  have k__law_shut := dv__law_shut (P := P) (w := w) (b := b) (mg := mg) (sp := spShutH) F__law_shut F__law_draw k__law_draw (PySem.W.mg_none_of X G no_tuple) (PySem.W.mg_none_of X G no_range) (PySem.W.mg_none_of X G no_len) (by intro vs H Q E h; first | (obtain ⟨_, rfl, _⟩ := h; rfl; done) | (obtain ⟨_, _, rfl, _⟩ := h; rfl; done) | (obtain ⟨_, _, _, rfl, _⟩ := h; rfl; done) | (obtain ⟨_, _, _, _, rfl, _⟩ := h; rfl; done) | (obtain ⟨_, _, _, _, _, rfl, _⟩ := h; rfl; done) | (obtain ⟨_, _, _, _, _, _, rfl, _⟩ := h; rfl; done) | (obtain ⟨_, _, _, _, _, _, _, rfl, _⟩ := h; rfl; done) | (obtain ⟨_, _, _, _, _, _, _, _, rfl, _⟩ := h; rfl; done) | (obtain ⟨_, _, _, _, _, _, _, _, _, rfl, _⟩ := h; rfl; done) | (obtain ⟨_, _, _, _, _, _, _, _, _, _, rfl, _⟩ := h; rfl; done) | (obtain ⟨_, _, _, _, _, _, _, _, _, _, _, rfl, _⟩ := h; rfl; done) | (obtain ⟨_, _, _, _, _, _, _, _, _, _, _, _, rfl, _⟩ := h; rfl; done) | (obtain ⟨_, _, _, _, _, _, _, _, _, _, _, _, _, rfl, _⟩ := h; rfl; done) | (obtain ⟨_, _, _, _, _, _, _, _, _, _, _, _, _, _, rfl, _⟩ := h; rfl; done) | (rcases h with h | h <;> first | (obtain ⟨_, rfl, _⟩ := h; rfl; done) | (obtain ⟨_, _, rfl, _⟩ := h; rfl; done) | (obtain ⟨_, _, _, rfl, _⟩ := h; rfl; done) | (obtain ⟨_, _, _, _, rfl, _⟩ := h; rfl; done) | (obtain ⟨_, _, _, _, _, rfl, _⟩ := h; rfl; done) | (obtain ⟨_, _, _, _, _, _, rfl, _⟩ := h; rfl; done) | (obtain ⟨_, _, _, _, _, _, _, rfl, _⟩ := h; rfl; done) | (obtain ⟨_, _, _, _, _, _, _, _, rfl, _⟩ := h; rfl; done) | (obtain ⟨_, _, _, _, _, _, _, _, _, rfl, _⟩ := h; rfl; done) | (obtain ⟨_, _, _, _, _, _, _, _, _, _, rfl, _⟩ := h; rfl; done) | (obtain ⟨_, _, _, _, _, _, _, _, _, _, _, rfl, _⟩ := h; rfl; done) | (obtain ⟨_, _, _, _, _, _, _, _, _, _, _, _, rfl, _⟩ := h; rfl; done) | (obtain ⟨_, _, _, _, _, _, _, _, _, _, _, _, _, rfl, _⟩ := h; rfl; done) | (obtain ⟨_, _, _, _, _, _, _, _, _, _, _, _, _, _, rfl, _⟩ := h; rfl; done))) (rd_shutH K)
  have k__law_chart := dv__law_chart (P := P) (w := w) (b := b) (mg := mg) (sp := spChartH) F__law_chart (PySem.W.mg_none_of X G no_range) (PySem.W.mg_none_of X G no_len) (PySem.W.mg_none_of X G no_tuple) (by intro vs H Q E h; first | (obtain ⟨_, rfl, _⟩ := h; rfl; done) | (obtain ⟨_, _, rfl, _⟩ := h; rfl; done) | (obtain ⟨_, _, _, rfl, _⟩ := h; rfl; done) | (obtain ⟨_, _, _, _, rfl, _⟩ := h; rfl; done) | (obtain ⟨_, _, _, _, _, rfl, _⟩ := h; rfl; done) | (obtain ⟨_, _, _, _, _, _, rfl, _⟩ := h; rfl; done) | (obtain ⟨_, _, _, _, _, _, _, rfl, _⟩ := h; rfl; done) | (obtain ⟨_, _, _, _, _, _, _, _, rfl, _⟩ := h; rfl; done) | (obtain ⟨_, _, _, _, _, _, _, _, _, rfl, _⟩ := h; rfl; done) | (obtain ⟨_, _, _, _, _, _, _, _, _, _, rfl, _⟩ := h; rfl; done) | (obtain ⟨_, _, _, _, _, _, _, _, _, _, _, rfl, _⟩ := h; rfl; done) | (obtain ⟨_, _, _, _, _, _, _, _, _, _, _, _, rfl, _⟩ := h; rfl; done) | (obtain ⟨_, _, _, _, _, _, _, _, _, _, _, _, _, rfl, _⟩ := h; rfl; done) | (obtain ⟨_, _, _, _, _, _, _, _, _, _, _, _, _, _, rfl, _⟩ := h; rfl; done) | (rcases h with h | h <;> first | (obtain ⟨_, rfl, _⟩ := h; rfl; done) | (obtain ⟨_, _, rfl, _⟩ := h; rfl; done) | (obtain ⟨_, _, _, rfl, _⟩ := h; rfl; done) | (obtain ⟨_, _, _, _, rfl, _⟩ := h; rfl; done) | (obtain ⟨_, _, _, _, _, rfl, _⟩ := h; rfl; done) | (obtain ⟨_, _, _, _, _, _, rfl, _⟩ := h; rfl; done) | (obtain ⟨_, _, _, _, _, _, _, rfl, _⟩ := h; rfl; done) | (obtain ⟨_, _, _, _, _, _, _, _, rfl, _⟩ := h; rfl; done) | (obtain ⟨_, _, _, _, _, _, _, _, _, rfl, _⟩ := h; rfl; done) | (obtain ⟨_, _, _, _, _, _, _, _, _, _, rfl, _⟩ := h; rfl; done) | (obtain ⟨_, _, _, _, _, _, _, _, _, _, _, rfl, _⟩ := h; rfl; done) | (obtain ⟨_, _, _, _, _, _, _, _, _, _, _, _, rfl, _⟩ := h; rfl; done) | (obtain ⟨_, _, _, _, _, _, _, _, _, _, _, _, _, rfl, _⟩ := h; rfl; done) | (obtain ⟨_, _, _, _, _, _, _, _, _, _, _, _, _, _, rfl, _⟩ := h; rfl; done))) (rd_chartH K)
  have k__law_near := dv__law_near (P := P) (w := w) (b := b) (mg := mg) (sp := spReached) F__law_near (PySem.W.mg_none_of X G no_range) (PySem.W.mg_none_of X G no_len) (by intro vs H Q E h; first | (obtain ⟨_, rfl, _⟩ := h; rfl; done) | (obtain ⟨_, _, rfl, _⟩ := h; rfl; done) | (obtain ⟨_, _, _, rfl, _⟩ := h; rfl; done) | (obtain ⟨_, _, _, _, rfl, _⟩ := h; rfl; done) | (obtain ⟨_, _, _, _, _, rfl, _⟩ := h; rfl; done) | (obtain ⟨_, _, _, _, _, _, rfl, _⟩ := h; rfl; done) | (obtain ⟨_, _, _, _, _, _, _, rfl, _⟩ := h; rfl; done) | (obtain ⟨_, _, _, _, _, _, _, _, rfl, _⟩ := h; rfl; done) | (obtain ⟨_, _, _, _, _, _, _, _, _, rfl, _⟩ := h; rfl; done) | (obtain ⟨_, _, _, _, _, _, _, _, _, _, rfl, _⟩ := h; rfl; done) | (obtain ⟨_, _, _, _, _, _, _, _, _, _, _, rfl, _⟩ := h; rfl; done) | (obtain ⟨_, _, _, _, _, _, _, _, _, _, _, _, rfl, _⟩ := h; rfl; done) | (obtain ⟨_, _, _, _, _, _, _, _, _, _, _, _, _, rfl, _⟩ := h; rfl; done) | (obtain ⟨_, _, _, _, _, _, _, _, _, _, _, _, _, _, rfl, _⟩ := h; rfl; done) | (rcases h with h | h <;> first | (obtain ⟨_, rfl, _⟩ := h; rfl; done) | (obtain ⟨_, _, rfl, _⟩ := h; rfl; done) | (obtain ⟨_, _, _, rfl, _⟩ := h; rfl; done) | (obtain ⟨_, _, _, _, rfl, _⟩ := h; rfl; done) | (obtain ⟨_, _, _, _, _, rfl, _⟩ := h; rfl; done) | (obtain ⟨_, _, _, _, _, _, rfl, _⟩ := h; rfl; done) | (obtain ⟨_, _, _, _, _, _, _, rfl, _⟩ := h; rfl; done) | (obtain ⟨_, _, _, _, _, _, _, _, rfl, _⟩ := h; rfl; done) | (obtain ⟨_, _, _, _, _, _, _, _, _, rfl, _⟩ := h; rfl; done) | (obtain ⟨_, _, _, _, _, _, _, _, _, _, rfl, _⟩ := h; rfl; done) | (obtain ⟨_, _, _, _, _, _, _, _, _, _, _, rfl, _⟩ := h; rfl; done) | (obtain ⟨_, _, _, _, _, _, _, _, _, _, _, _, rfl, _⟩ := h; rfl; done) | (obtain ⟨_, _, _, _, _, _, _, _, _, _, _, _, _, rfl, _⟩ := h; rfl; done) | (obtain ⟨_, _, _, _, _, _, _, _, _, _, _, _, _, _, rfl, _⟩ := h; rfl; done))) (rd_nearL K)
  have k__law_stage := dv__law_stage (P := P) (w := w) (b := b) (mg := mg) (sp := spStage) F__law_stage (PySem.W.mg_none_of X G no_dict) F__law_near k__law_near (PySem.W.mg_none_of X G no_any) (by intro vs H Q E h; first | (obtain ⟨_, rfl, _⟩ := h; rfl; done) | (obtain ⟨_, _, rfl, _⟩ := h; rfl; done) | (obtain ⟨_, _, _, rfl, _⟩ := h; rfl; done) | (obtain ⟨_, _, _, _, rfl, _⟩ := h; rfl; done) | (obtain ⟨_, _, _, _, _, rfl, _⟩ := h; rfl; done) | (obtain ⟨_, _, _, _, _, _, rfl, _⟩ := h; rfl; done) | (obtain ⟨_, _, _, _, _, _, _, rfl, _⟩ := h; rfl; done) | (obtain ⟨_, _, _, _, _, _, _, _, rfl, _⟩ := h; rfl; done) | (obtain ⟨_, _, _, _, _, _, _, _, _, rfl, _⟩ := h; rfl; done) | (obtain ⟨_, _, _, _, _, _, _, _, _, _, rfl, _⟩ := h; rfl; done) | (obtain ⟨_, _, _, _, _, _, _, _, _, _, _, rfl, _⟩ := h; rfl; done) | (obtain ⟨_, _, _, _, _, _, _, _, _, _, _, _, rfl, _⟩ := h; rfl; done) | (obtain ⟨_, _, _, _, _, _, _, _, _, _, _, _, _, rfl, _⟩ := h; rfl; done) | (obtain ⟨_, _, _, _, _, _, _, _, _, _, _, _, _, _, rfl, _⟩ := h; rfl; done) | (rcases h with h | h <;> first | (obtain ⟨_, rfl, _⟩ := h; rfl; done) | (obtain ⟨_, _, rfl, _⟩ := h; rfl; done) | (obtain ⟨_, _, _, rfl, _⟩ := h; rfl; done) | (obtain ⟨_, _, _, _, rfl, _⟩ := h; rfl; done) | (obtain ⟨_, _, _, _, _, rfl, _⟩ := h; rfl; done) | (obtain ⟨_, _, _, _, _, _, rfl, _⟩ := h; rfl; done) | (obtain ⟨_, _, _, _, _, _, _, rfl, _⟩ := h; rfl; done) | (obtain ⟨_, _, _, _, _, _, _, _, rfl, _⟩ := h; rfl; done) | (obtain ⟨_, _, _, _, _, _, _, _, _, rfl, _⟩ := h; rfl; done) | (obtain ⟨_, _, _, _, _, _, _, _, _, _, rfl, _⟩ := h; rfl; done) | (obtain ⟨_, _, _, _, _, _, _, _, _, _, _, rfl, _⟩ := h; rfl; done) | (obtain ⟨_, _, _, _, _, _, _, _, _, _, _, _, rfl, _⟩ := h; rfl; done) | (obtain ⟨_, _, _, _, _, _, _, _, _, _, _, _, _, rfl, _⟩ := h; rfl; done) | (obtain ⟨_, _, _, _, _, _, _, _, _, _, _, _, _, _, rfl, _⟩ := h; rfl; done))) (rd_stage K)
  have k__law_left := dv__law_left (P := P) (w := w) (b := b) (mg := mg) (sp := spLeft) F__law_left (PySem.W.mg_none_of X G no_any) (by intro vs H Q E h; first | (obtain ⟨_, rfl, _⟩ := h; rfl; done) | (obtain ⟨_, _, rfl, _⟩ := h; rfl; done) | (obtain ⟨_, _, _, rfl, _⟩ := h; rfl; done) | (obtain ⟨_, _, _, _, rfl, _⟩ := h; rfl; done) | (obtain ⟨_, _, _, _, _, rfl, _⟩ := h; rfl; done) | (obtain ⟨_, _, _, _, _, _, rfl, _⟩ := h; rfl; done) | (obtain ⟨_, _, _, _, _, _, _, rfl, _⟩ := h; rfl; done) | (obtain ⟨_, _, _, _, _, _, _, _, rfl, _⟩ := h; rfl; done) | (obtain ⟨_, _, _, _, _, _, _, _, _, rfl, _⟩ := h; rfl; done) | (obtain ⟨_, _, _, _, _, _, _, _, _, _, rfl, _⟩ := h; rfl; done) | (obtain ⟨_, _, _, _, _, _, _, _, _, _, _, rfl, _⟩ := h; rfl; done) | (obtain ⟨_, _, _, _, _, _, _, _, _, _, _, _, rfl, _⟩ := h; rfl; done) | (obtain ⟨_, _, _, _, _, _, _, _, _, _, _, _, _, rfl, _⟩ := h; rfl; done) | (obtain ⟨_, _, _, _, _, _, _, _, _, _, _, _, _, _, rfl, _⟩ := h; rfl; done) | (rcases h with h | h <;> first | (obtain ⟨_, rfl, _⟩ := h; rfl; done) | (obtain ⟨_, _, rfl, _⟩ := h; rfl; done) | (obtain ⟨_, _, _, rfl, _⟩ := h; rfl; done) | (obtain ⟨_, _, _, _, rfl, _⟩ := h; rfl; done) | (obtain ⟨_, _, _, _, _, rfl, _⟩ := h; rfl; done) | (obtain ⟨_, _, _, _, _, _, rfl, _⟩ := h; rfl; done) | (obtain ⟨_, _, _, _, _, _, _, rfl, _⟩ := h; rfl; done) | (obtain ⟨_, _, _, _, _, _, _, _, rfl, _⟩ := h; rfl; done) | (obtain ⟨_, _, _, _, _, _, _, _, _, rfl, _⟩ := h; rfl; done) | (obtain ⟨_, _, _, _, _, _, _, _, _, _, rfl, _⟩ := h; rfl; done) | (obtain ⟨_, _, _, _, _, _, _, _, _, _, _, rfl, _⟩ := h; rfl; done) | (obtain ⟨_, _, _, _, _, _, _, _, _, _, _, _, rfl, _⟩ := h; rfl; done) | (obtain ⟨_, _, _, _, _, _, _, _, _, _, _, _, _, rfl, _⟩ := h; rfl; done) | (obtain ⟨_, _, _, _, _, _, _, _, _, _, _, _, _, _, rfl, _⟩ := h; rfl; done))) (rd_left K)
  have k__law_sets := dv__law_sets (P := P) (w := w) (b := b) (mg := mg) (sp := spSets) F__law_sets (PySem.W.mg_none_of X G no_range) (by intro vs H Q E h; first | (obtain ⟨_, rfl, _⟩ := h; rfl; done) | (obtain ⟨_, _, rfl, _⟩ := h; rfl; done) | (obtain ⟨_, _, _, rfl, _⟩ := h; rfl; done) | (obtain ⟨_, _, _, _, rfl, _⟩ := h; rfl; done) | (obtain ⟨_, _, _, _, _, rfl, _⟩ := h; rfl; done) | (obtain ⟨_, _, _, _, _, _, rfl, _⟩ := h; rfl; done) | (obtain ⟨_, _, _, _, _, _, _, rfl, _⟩ := h; rfl; done) | (obtain ⟨_, _, _, _, _, _, _, _, rfl, _⟩ := h; rfl; done) | (obtain ⟨_, _, _, _, _, _, _, _, _, rfl, _⟩ := h; rfl; done) | (obtain ⟨_, _, _, _, _, _, _, _, _, _, rfl, _⟩ := h; rfl; done) | (obtain ⟨_, _, _, _, _, _, _, _, _, _, _, rfl, _⟩ := h; rfl; done) | (obtain ⟨_, _, _, _, _, _, _, _, _, _, _, _, rfl, _⟩ := h; rfl; done) | (obtain ⟨_, _, _, _, _, _, _, _, _, _, _, _, _, rfl, _⟩ := h; rfl; done) | (obtain ⟨_, _, _, _, _, _, _, _, _, _, _, _, _, _, rfl, _⟩ := h; rfl; done) | (rcases h with h | h <;> first | (obtain ⟨_, rfl, _⟩ := h; rfl; done) | (obtain ⟨_, _, rfl, _⟩ := h; rfl; done) | (obtain ⟨_, _, _, rfl, _⟩ := h; rfl; done) | (obtain ⟨_, _, _, _, rfl, _⟩ := h; rfl; done) | (obtain ⟨_, _, _, _, _, rfl, _⟩ := h; rfl; done) | (obtain ⟨_, _, _, _, _, _, rfl, _⟩ := h; rfl; done) | (obtain ⟨_, _, _, _, _, _, _, rfl, _⟩ := h; rfl; done) | (obtain ⟨_, _, _, _, _, _, _, _, rfl, _⟩ := h; rfl; done) | (obtain ⟨_, _, _, _, _, _, _, _, _, rfl, _⟩ := h; rfl; done) | (obtain ⟨_, _, _, _, _, _, _, _, _, _, rfl, _⟩ := h; rfl; done) | (obtain ⟨_, _, _, _, _, _, _, _, _, _, _, rfl, _⟩ := h; rfl; done) | (obtain ⟨_, _, _, _, _, _, _, _, _, _, _, _, rfl, _⟩ := h; rfl; done) | (obtain ⟨_, _, _, _, _, _, _, _, _, _, _, _, _, rfl, _⟩ := h; rfl; done) | (obtain ⟨_, _, _, _, _, _, _, _, _, _, _, _, _, _, rfl, _⟩ := h; rfl; done))) (rd_sets K)
  have k__law_fewest := dv__law_fewest (P := P) (w := w) (b := b) (mg := mg) (sp := spFewestL) F__law_fewest (PySem.W.mg_none_of X G no_range) (PySem.W.mg_none_of X G no_len) F__law_sets k__law_sets F__law_left k__law_left (PySem.W.mg_none_of X G no_tuple) (by intro vs H Q E h; first | (obtain ⟨_, rfl, _⟩ := h; rfl; done) | (obtain ⟨_, _, rfl, _⟩ := h; rfl; done) | (obtain ⟨_, _, _, rfl, _⟩ := h; rfl; done) | (obtain ⟨_, _, _, _, rfl, _⟩ := h; rfl; done) | (obtain ⟨_, _, _, _, _, rfl, _⟩ := h; rfl; done) | (obtain ⟨_, _, _, _, _, _, rfl, _⟩ := h; rfl; done) | (obtain ⟨_, _, _, _, _, _, _, rfl, _⟩ := h; rfl; done) | (obtain ⟨_, _, _, _, _, _, _, _, rfl, _⟩ := h; rfl; done) | (obtain ⟨_, _, _, _, _, _, _, _, _, rfl, _⟩ := h; rfl; done) | (obtain ⟨_, _, _, _, _, _, _, _, _, _, rfl, _⟩ := h; rfl; done) | (obtain ⟨_, _, _, _, _, _, _, _, _, _, _, rfl, _⟩ := h; rfl; done) | (obtain ⟨_, _, _, _, _, _, _, _, _, _, _, _, rfl, _⟩ := h; rfl; done) | (obtain ⟨_, _, _, _, _, _, _, _, _, _, _, _, _, rfl, _⟩ := h; rfl; done) | (obtain ⟨_, _, _, _, _, _, _, _, _, _, _, _, _, _, rfl, _⟩ := h; rfl; done) | (rcases h with h | h <;> first | (obtain ⟨_, rfl, _⟩ := h; rfl; done) | (obtain ⟨_, _, rfl, _⟩ := h; rfl; done) | (obtain ⟨_, _, _, rfl, _⟩ := h; rfl; done) | (obtain ⟨_, _, _, _, rfl, _⟩ := h; rfl; done) | (obtain ⟨_, _, _, _, _, rfl, _⟩ := h; rfl; done) | (obtain ⟨_, _, _, _, _, _, rfl, _⟩ := h; rfl; done) | (obtain ⟨_, _, _, _, _, _, _, rfl, _⟩ := h; rfl; done) | (obtain ⟨_, _, _, _, _, _, _, _, rfl, _⟩ := h; rfl; done) | (obtain ⟨_, _, _, _, _, _, _, _, _, rfl, _⟩ := h; rfl; done) | (obtain ⟨_, _, _, _, _, _, _, _, _, _, rfl, _⟩ := h; rfl; done) | (obtain ⟨_, _, _, _, _, _, _, _, _, _, _, rfl, _⟩ := h; rfl; done) | (obtain ⟨_, _, _, _, _, _, _, _, _, _, _, _, rfl, _⟩ := h; rfl; done) | (obtain ⟨_, _, _, _, _, _, _, _, _, _, _, _, _, rfl, _⟩ := h; rfl; done) | (obtain ⟨_, _, _, _, _, _, _, _, _, _, _, _, _, _, rfl, _⟩ := h; rfl; done))) (rd_fewestL K)
  have k__law_covering := dv__law_covering (P := P) (w := w) (b := b) (mg := mg) (sp := spCover) F__law_covering F__law_fewest k__law_fewest (PySem.W.mg_none_of X G no_range) (PySem.W.mg_none_of X G no_len) F__law_sets k__law_sets F__law_left k__law_left (PySem.W.mg_none_of X G no_tuple) F__law_draw k__law_draw (by intro vs H Q E h; first | (obtain ⟨_, rfl, _⟩ := h; rfl; done) | (obtain ⟨_, _, rfl, _⟩ := h; rfl; done) | (obtain ⟨_, _, _, rfl, _⟩ := h; rfl; done) | (obtain ⟨_, _, _, _, rfl, _⟩ := h; rfl; done) | (obtain ⟨_, _, _, _, _, rfl, _⟩ := h; rfl; done) | (obtain ⟨_, _, _, _, _, _, rfl, _⟩ := h; rfl; done) | (obtain ⟨_, _, _, _, _, _, _, rfl, _⟩ := h; rfl; done) | (obtain ⟨_, _, _, _, _, _, _, _, rfl, _⟩ := h; rfl; done) | (obtain ⟨_, _, _, _, _, _, _, _, _, rfl, _⟩ := h; rfl; done) | (obtain ⟨_, _, _, _, _, _, _, _, _, _, rfl, _⟩ := h; rfl; done) | (obtain ⟨_, _, _, _, _, _, _, _, _, _, _, rfl, _⟩ := h; rfl; done) | (obtain ⟨_, _, _, _, _, _, _, _, _, _, _, _, rfl, _⟩ := h; rfl; done) | (obtain ⟨_, _, _, _, _, _, _, _, _, _, _, _, _, rfl, _⟩ := h; rfl; done) | (obtain ⟨_, _, _, _, _, _, _, _, _, _, _, _, _, _, rfl, _⟩ := h; rfl; done) | (rcases h with h | h <;> first | (obtain ⟨_, rfl, _⟩ := h; rfl; done) | (obtain ⟨_, _, rfl, _⟩ := h; rfl; done) | (obtain ⟨_, _, _, rfl, _⟩ := h; rfl; done) | (obtain ⟨_, _, _, _, rfl, _⟩ := h; rfl; done) | (obtain ⟨_, _, _, _, _, rfl, _⟩ := h; rfl; done) | (obtain ⟨_, _, _, _, _, _, rfl, _⟩ := h; rfl; done) | (obtain ⟨_, _, _, _, _, _, _, rfl, _⟩ := h; rfl; done) | (obtain ⟨_, _, _, _, _, _, _, _, rfl, _⟩ := h; rfl; done) | (obtain ⟨_, _, _, _, _, _, _, _, _, rfl, _⟩ := h; rfl; done) | (obtain ⟨_, _, _, _, _, _, _, _, _, _, rfl, _⟩ := h; rfl; done) | (obtain ⟨_, _, _, _, _, _, _, _, _, _, _, rfl, _⟩ := h; rfl; done) | (obtain ⟨_, _, _, _, _, _, _, _, _, _, _, _, rfl, _⟩ := h; rfl; done) | (obtain ⟨_, _, _, _, _, _, _, _, _, _, _, _, _, rfl, _⟩ := h; rfl; done) | (obtain ⟨_, _, _, _, _, _, _, _, _, _, _, _, _, _, rfl, _⟩ := h; rfl; done))) (rd_cover K)
  have k__law_is_node := dv__law_is_node (P := P) (w := w) (b := b) (mg := mg) (sp := spNodeL) F__law_is_node (PySem.W.mg_none_of X G no_isinstance) (PySem.W.mg_none_of X G no_tuple) (PySem.W.mg_none_of X G no_len) (PySem.W.mg_none_of X G no_str) (by intro vs H Q E h; first | (obtain ⟨_, rfl, _⟩ := h; rfl; done) | (obtain ⟨_, _, rfl, _⟩ := h; rfl; done) | (obtain ⟨_, _, _, rfl, _⟩ := h; rfl; done) | (obtain ⟨_, _, _, _, rfl, _⟩ := h; rfl; done) | (obtain ⟨_, _, _, _, _, rfl, _⟩ := h; rfl; done) | (obtain ⟨_, _, _, _, _, _, rfl, _⟩ := h; rfl; done) | (obtain ⟨_, _, _, _, _, _, _, rfl, _⟩ := h; rfl; done) | (obtain ⟨_, _, _, _, _, _, _, _, rfl, _⟩ := h; rfl; done) | (obtain ⟨_, _, _, _, _, _, _, _, _, rfl, _⟩ := h; rfl; done) | (obtain ⟨_, _, _, _, _, _, _, _, _, _, rfl, _⟩ := h; rfl; done) | (obtain ⟨_, _, _, _, _, _, _, _, _, _, _, rfl, _⟩ := h; rfl; done) | (obtain ⟨_, _, _, _, _, _, _, _, _, _, _, _, rfl, _⟩ := h; rfl; done) | (obtain ⟨_, _, _, _, _, _, _, _, _, _, _, _, _, rfl, _⟩ := h; rfl; done) | (obtain ⟨_, _, _, _, _, _, _, _, _, _, _, _, _, _, rfl, _⟩ := h; rfl; done) | (rcases h with h | h <;> first | (obtain ⟨_, rfl, _⟩ := h; rfl; done) | (obtain ⟨_, _, rfl, _⟩ := h; rfl; done) | (obtain ⟨_, _, _, rfl, _⟩ := h; rfl; done) | (obtain ⟨_, _, _, _, rfl, _⟩ := h; rfl; done) | (obtain ⟨_, _, _, _, _, rfl, _⟩ := h; rfl; done) | (obtain ⟨_, _, _, _, _, _, rfl, _⟩ := h; rfl; done) | (obtain ⟨_, _, _, _, _, _, _, rfl, _⟩ := h; rfl; done) | (obtain ⟨_, _, _, _, _, _, _, _, rfl, _⟩ := h; rfl; done) | (obtain ⟨_, _, _, _, _, _, _, _, _, rfl, _⟩ := h; rfl; done) | (obtain ⟨_, _, _, _, _, _, _, _, _, _, rfl, _⟩ := h; rfl; done) | (obtain ⟨_, _, _, _, _, _, _, _, _, _, _, rfl, _⟩ := h; rfl; done) | (obtain ⟨_, _, _, _, _, _, _, _, _, _, _, _, rfl, _⟩ := h; rfl; done) | (obtain ⟨_, _, _, _, _, _, _, _, _, _, _, _, _, rfl, _⟩ := h; rfl; done) | (obtain ⟨_, _, _, _, _, _, _, _, _, _, _, _, _, _, rfl, _⟩ := h; rfl; done))) (rd_nodeL K)
  have k__law_are_just := dv__law_are_just (P := P) (w := w) (b := b) (mg := mg) (sp := spJustL encS) F__law_are_just (PySem.W.mg_none_of X G no_all) (PySem.W.mg_none_of X G no_isinstance) (PySem.W.mg_none_of X G no_str) (PySem.W.mg_none_of X G no_len) (by intro vs H Q E h; first | (obtain ⟨_, rfl, _⟩ := h; rfl; done) | (obtain ⟨_, _, rfl, _⟩ := h; rfl; done) | (obtain ⟨_, _, _, rfl, _⟩ := h; rfl; done) | (obtain ⟨_, _, _, _, rfl, _⟩ := h; rfl; done) | (obtain ⟨_, _, _, _, _, rfl, _⟩ := h; rfl; done) | (obtain ⟨_, _, _, _, _, _, rfl, _⟩ := h; rfl; done) | (obtain ⟨_, _, _, _, _, _, _, rfl, _⟩ := h; rfl; done) | (obtain ⟨_, _, _, _, _, _, _, _, rfl, _⟩ := h; rfl; done) | (obtain ⟨_, _, _, _, _, _, _, _, _, rfl, _⟩ := h; rfl; done) | (obtain ⟨_, _, _, _, _, _, _, _, _, _, rfl, _⟩ := h; rfl; done) | (obtain ⟨_, _, _, _, _, _, _, _, _, _, _, rfl, _⟩ := h; rfl; done) | (obtain ⟨_, _, _, _, _, _, _, _, _, _, _, _, rfl, _⟩ := h; rfl; done) | (obtain ⟨_, _, _, _, _, _, _, _, _, _, _, _, _, rfl, _⟩ := h; rfl; done) | (obtain ⟨_, _, _, _, _, _, _, _, _, _, _, _, _, _, rfl, _⟩ := h; rfl; done) | (rcases h with h | h <;> first | (obtain ⟨_, rfl, _⟩ := h; rfl; done) | (obtain ⟨_, _, rfl, _⟩ := h; rfl; done) | (obtain ⟨_, _, _, rfl, _⟩ := h; rfl; done) | (obtain ⟨_, _, _, _, rfl, _⟩ := h; rfl; done) | (obtain ⟨_, _, _, _, _, rfl, _⟩ := h; rfl; done) | (obtain ⟨_, _, _, _, _, _, rfl, _⟩ := h; rfl; done) | (obtain ⟨_, _, _, _, _, _, _, rfl, _⟩ := h; rfl; done) | (obtain ⟨_, _, _, _, _, _, _, _, rfl, _⟩ := h; rfl; done) | (obtain ⟨_, _, _, _, _, _, _, _, _, rfl, _⟩ := h; rfl; done) | (obtain ⟨_, _, _, _, _, _, _, _, _, _, rfl, _⟩ := h; rfl; done) | (obtain ⟨_, _, _, _, _, _, _, _, _, _, _, rfl, _⟩ := h; rfl; done) | (obtain ⟨_, _, _, _, _, _, _, _, _, _, _, _, rfl, _⟩ := h; rfl; done) | (obtain ⟨_, _, _, _, _, _, _, _, _, _, _, _, _, rfl, _⟩ := h; rfl; done) | (obtain ⟨_, _, _, _, _, _, _, _, _, _, _, _, _, _, rfl, _⟩ := h; rfl; done))) (rd_justL K encS_ne)
  have kk__law_shows : ∀ m : Nat, Keeps P w K mg b CX0 (2 + m) a__law_shows (PySem.W.fnOf "_law_shows" "_law_shows" (defArgs s__law_shows_) (defBody s__law_shows_) (defScope s__law_shows_) .none kV__law_shows dc__law_shows pm__law_shows an__law_shows cd__law_shows ct__law_shows) ["stage", "posts", "tree", "taken"] (spShowsL K m) := by
    intro m
    induction m with
    | zero => exact ⟨fun _ _ _ _ h => h.elim, fun _ _ _ _ _ _ _ _ _ _ _ _ _ h => h.elim⟩
    | succ m ih => exact dv__law_shows (P := P) (w := w) (b := b) (mg := mg) (sp := spShowsL K (m + 1)) F__law_shows F__law_left k__law_left F__law_is_node k__law_is_node (PySem.W.mg_none_of X G no_sorted) (PySem.W.mg_none_of X G no_len) (PySem.W.mg_none_of X G no_isinstance) (PySem.W.mg_none_of X G no_str) (PySem.W.mg_none_of X G no_tuple) F__law_are_just k__law_are_just (PySem.W.mg_none_of X G no_all) (Nat.le_add_right _ _) F__law_shows ih (by intro vs H Q E h; first | (obtain ⟨_, rfl, _⟩ := h; rfl; done) | (obtain ⟨_, _, rfl, _⟩ := h; rfl; done) | (obtain ⟨_, _, _, rfl, _⟩ := h; rfl; done) | (obtain ⟨_, _, _, _, rfl, _⟩ := h; rfl; done) | (obtain ⟨_, _, _, _, _, rfl, _⟩ := h; rfl; done) | (obtain ⟨_, _, _, _, _, _, rfl, _⟩ := h; rfl; done) | (obtain ⟨_, _, _, _, _, _, _, rfl, _⟩ := h; rfl; done) | (obtain ⟨_, _, _, _, _, _, _, _, rfl, _⟩ := h; rfl; done) | (obtain ⟨_, _, _, _, _, _, _, _, _, rfl, _⟩ := h; rfl; done) | (obtain ⟨_, _, _, _, _, _, _, _, _, _, rfl, _⟩ := h; rfl; done) | (obtain ⟨_, _, _, _, _, _, _, _, _, _, _, rfl, _⟩ := h; rfl; done) | (obtain ⟨_, _, _, _, _, _, _, _, _, _, _, _, rfl, _⟩ := h; rfl; done) | (obtain ⟨_, _, _, _, _, _, _, _, _, _, _, _, _, rfl, _⟩ := h; rfl; done) | (obtain ⟨_, _, _, _, _, _, _, _, _, _, _, _, _, _, rfl, _⟩ := h; rfl; done) | (rcases h with h | h <;> first | (obtain ⟨_, rfl, _⟩ := h; rfl; done) | (obtain ⟨_, _, rfl, _⟩ := h; rfl; done) | (obtain ⟨_, _, _, rfl, _⟩ := h; rfl; done) | (obtain ⟨_, _, _, _, rfl, _⟩ := h; rfl; done) | (obtain ⟨_, _, _, _, _, rfl, _⟩ := h; rfl; done) | (obtain ⟨_, _, _, _, _, _, rfl, _⟩ := h; rfl; done) | (obtain ⟨_, _, _, _, _, _, _, rfl, _⟩ := h; rfl; done) | (obtain ⟨_, _, _, _, _, _, _, _, rfl, _⟩ := h; rfl; done) | (obtain ⟨_, _, _, _, _, _, _, _, _, rfl, _⟩ := h; rfl; done) | (obtain ⟨_, _, _, _, _, _, _, _, _, _, rfl, _⟩ := h; rfl; done) | (obtain ⟨_, _, _, _, _, _, _, _, _, _, _, rfl, _⟩ := h; rfl; done) | (obtain ⟨_, _, _, _, _, _, _, _, _, _, _, _, rfl, _⟩ := h; rfl; done) | (obtain ⟨_, _, _, _, _, _, _, _, _, _, _, _, _, rfl, _⟩ := h; rfl; done) | (obtain ⟨_, _, _, _, _, _, _, _, _, _, _, _, _, _, rfl, _⟩ := h; rfl; done))) (rd_showsL K m)
  have k__law_shows := kk__law_shows 7
  have kk__law_tree_by : ∀ m : Nat, Keeps P w K mg b CX0 (3 + m) a__law_tree_by (PySem.W.fnOf "_law_tree_by" "_law_tree_by" (defArgs s__law_tree_by_) (defBody s__law_tree_by_) (defScope s__law_tree_by_) .none kV__law_tree_by dc__law_tree_by pm__law_tree_by an__law_tree_by cd__law_tree_by ct__law_tree_by) ["held", "stage", "many", "taken"] (spTree m) := by
    intro m
    induction m with
    | zero => exact ⟨fun _ _ _ _ h => h.elim, fun _ _ _ _ _ _ _ _ _ _ _ _ _ h => h.elim⟩
    | succ m ih => exact dv__law_tree_by (P := P) (w := w) (b := b) (mg := mg) (sp := spTree (m + 1)) F__law_tree_by F__law_left k__law_left F__law_draw k__law_draw (PySem.W.mg_none_of X G no_len) F__law_some k__law_some (Nat.le_add_right _ _) F__law_tree_by ih (PySem.W.mg_none_of X G no_tuple) (by intro vs H Q E h; first | (obtain ⟨_, rfl, _⟩ := h; rfl; done) | (obtain ⟨_, _, rfl, _⟩ := h; rfl; done) | (obtain ⟨_, _, _, rfl, _⟩ := h; rfl; done) | (obtain ⟨_, _, _, _, rfl, _⟩ := h; rfl; done) | (obtain ⟨_, _, _, _, _, rfl, _⟩ := h; rfl; done) | (obtain ⟨_, _, _, _, _, _, rfl, _⟩ := h; rfl; done) | (obtain ⟨_, _, _, _, _, _, _, rfl, _⟩ := h; rfl; done) | (obtain ⟨_, _, _, _, _, _, _, _, rfl, _⟩ := h; rfl; done) | (obtain ⟨_, _, _, _, _, _, _, _, _, rfl, _⟩ := h; rfl; done) | (obtain ⟨_, _, _, _, _, _, _, _, _, _, rfl, _⟩ := h; rfl; done) | (obtain ⟨_, _, _, _, _, _, _, _, _, _, _, rfl, _⟩ := h; rfl; done) | (obtain ⟨_, _, _, _, _, _, _, _, _, _, _, _, rfl, _⟩ := h; rfl; done) | (obtain ⟨_, _, _, _, _, _, _, _, _, _, _, _, _, rfl, _⟩ := h; rfl; done) | (obtain ⟨_, _, _, _, _, _, _, _, _, _, _, _, _, _, rfl, _⟩ := h; rfl; done) | (rcases h with h | h <;> first | (obtain ⟨_, rfl, _⟩ := h; rfl; done) | (obtain ⟨_, _, rfl, _⟩ := h; rfl; done) | (obtain ⟨_, _, _, rfl, _⟩ := h; rfl; done) | (obtain ⟨_, _, _, _, rfl, _⟩ := h; rfl; done) | (obtain ⟨_, _, _, _, _, rfl, _⟩ := h; rfl; done) | (obtain ⟨_, _, _, _, _, _, rfl, _⟩ := h; rfl; done) | (obtain ⟨_, _, _, _, _, _, _, rfl, _⟩ := h; rfl; done) | (obtain ⟨_, _, _, _, _, _, _, _, rfl, _⟩ := h; rfl; done) | (obtain ⟨_, _, _, _, _, _, _, _, _, rfl, _⟩ := h; rfl; done) | (obtain ⟨_, _, _, _, _, _, _, _, _, _, rfl, _⟩ := h; rfl; done) | (obtain ⟨_, _, _, _, _, _, _, _, _, _, _, rfl, _⟩ := h; rfl; done) | (obtain ⟨_, _, _, _, _, _, _, _, _, _, _, _, rfl, _⟩ := h; rfl; done) | (obtain ⟨_, _, _, _, _, _, _, _, _, _, _, _, _, rfl, _⟩ := h; rfl; done) | (obtain ⟨_, _, _, _, _, _, _, _, _, _, _, _, _, _, rfl, _⟩ := h; rfl; done))) (rd_tree K m)
  have k__law_tree_by := kk__law_tree_by 6
  have k_law := dv_law (P := P) (w := w) (b := b) (mg := mg) (sp := spLaw K [P__are_branches, P__is_by]) F_law F__law_held k__law_held F__law_town k__law_town F__law_chart k__law_chart F__law_shut k__law_shut F__law_stage k__law_stage (PySem.W.mg_none_of X G no_range) F__law_covering k__law_covering F__law_fewest k__law_fewest (PySem.W.mg_none_of X G no_int) (PySem.W.mg_none_of X G no_max) (PySem.W.mg_none_of X G no_len) F__law_draw k__law_draw F__law_tree_by k__law_tree_by F__law_shows k__law_shows F_shows_posts k_shows_posts (by intro vs H Q E h; first | (obtain ⟨_, rfl, _⟩ := h; rfl; done) | (obtain ⟨_, _, rfl, _⟩ := h; rfl; done) | (obtain ⟨_, _, _, rfl, _⟩ := h; rfl; done) | (obtain ⟨_, _, _, _, rfl, _⟩ := h; rfl; done) | (obtain ⟨_, _, _, _, _, rfl, _⟩ := h; rfl; done) | (obtain ⟨_, _, _, _, _, _, rfl, _⟩ := h; rfl; done) | (obtain ⟨_, _, _, _, _, _, _, rfl, _⟩ := h; rfl; done) | (obtain ⟨_, _, _, _, _, _, _, _, rfl, _⟩ := h; rfl; done) | (obtain ⟨_, _, _, _, _, _, _, _, _, rfl, _⟩ := h; rfl; done) | (obtain ⟨_, _, _, _, _, _, _, _, _, _, rfl, _⟩ := h; rfl; done) | (obtain ⟨_, _, _, _, _, _, _, _, _, _, _, rfl, _⟩ := h; rfl; done) | (obtain ⟨_, _, _, _, _, _, _, _, _, _, _, _, rfl, _⟩ := h; rfl; done) | (obtain ⟨_, _, _, _, _, _, _, _, _, _, _, _, _, rfl, _⟩ := h; rfl; done) | (obtain ⟨_, _, _, _, _, _, _, _, _, _, _, _, _, _, rfl, _⟩ := h; rfl; done) | (rcases h with h | h <;> first | (obtain ⟨_, rfl, _⟩ := h; rfl; done) | (obtain ⟨_, _, rfl, _⟩ := h; rfl; done) | (obtain ⟨_, _, _, rfl, _⟩ := h; rfl; done) | (obtain ⟨_, _, _, _, rfl, _⟩ := h; rfl; done) | (obtain ⟨_, _, _, _, _, rfl, _⟩ := h; rfl; done) | (obtain ⟨_, _, _, _, _, _, rfl, _⟩ := h; rfl; done) | (obtain ⟨_, _, _, _, _, _, _, rfl, _⟩ := h; rfl; done) | (obtain ⟨_, _, _, _, _, _, _, _, rfl, _⟩ := h; rfl; done) | (obtain ⟨_, _, _, _, _, _, _, _, _, rfl, _⟩ := h; rfl; done) | (obtain ⟨_, _, _, _, _, _, _, _, _, _, rfl, _⟩ := h; rfl; done) | (obtain ⟨_, _, _, _, _, _, _, _, _, _, _, rfl, _⟩ := h; rfl; done) | (obtain ⟨_, _, _, _, _, _, _, _, _, _, _, _, rfl, _⟩ := h; rfl; done) | (obtain ⟨_, _, _, _, _, _, _, _, _, _, _, _, _, rfl, _⟩ := h; rfl; done) | (obtain ⟨_, _, _, _, _, _, _, _, _, _, _, _, _, _, rfl, _⟩ := h; rfl; done))) (rd_law K (L := [P__are_branches, P__is_by]))
  exact k_law
end Wg
open PySem PySem.W PyProof.Rows
set_option maxHeartbeats 0 in
theorem PySem.Challenge.cw_wagoncalls_k27_trees_of_posts_by_any_han_holds : PySem.Challenge.rw_wagoncalls_k27_trees_of_posts_by_any_han.Holds := by
  w_on; o_law; k_head; (case hw => w_witness2)
  k_fill
  refine Wg.walk_endT (l := PySem.Challenge.rw_wagoncalls_k27_trees_of_posts_by_any_han) (n := 63) (k := 27) (x := "script") (sp := fun K L => Wg.spLaw K L) rfl (by decide) rfl ⟨⟨rfl, by decide, by decide⟩, rfl⟩ (fun w h Y => PySem.W.kIn_of Y) ?F ?S
  case S =>
    intro K L H a ns hl ho ht hs
    exact ⟨a, ns, rfl, Wg.Scr.ofT ho hs, hl, ht, fun _ => rfl⟩
  case F =>
    intro w mg fa h KX G hmg
    refine' Wg.all_mk KX G hmg ?ad_Near ?pg_Near ?hd_Near ?po_Near ?sa_Near ?mk_Near ?kc_Near ?na_Near_goals ?na_Near_table ?ad_StandChoices ?pg_StandChoices ?hd_StandChoices ?po_StandChoices ?sa_StandChoices ?mk_StandChoices ?kc_StandChoices ?na_StandChoices_near ?na_StandChoices_stands ?ad__is_near ?lo__is_near ?co__is_near ?kp__is_near ?ad_reached ?lo_reached ?co_reached ?kp_reached ?ad_bare ?lo_bare ?co_bare ?kp_bare ?ad_lost ?lo_lost ?co_lost ?kp_lost ?fi_Near____init__ ?ifn_Near____init__ ?lo_Near____init__ ?co_Near____init__ ?kp_Near____init__ ?fi_Near__reaches ?ifn_Near__reaches ?lo_Near__reaches ?co_Near__reaches ?kp_Near__reaches ?fi_Near__lacking ?ifn_Near__lacking ?lo_Near__lacking ?co_Near__lacking ?kp_Near__lacking ?fi_StandChoices____init__ ?ifn_StandChoices____init__ ?lo_StandChoices____init__ ?co_StandChoices____init__ ?kp_StandChoices____init__ ?fi_StandChoices__lacking ?ifn_StandChoices__lacking ?lo_StandChoices__lacking ?co_StandChoices__lacking ?kp_StandChoices__lacking ?fi_StandChoices__options ?ifn_StandChoices__options ?lo_StandChoices__options ?co_StandChoices__options ?kp_StandChoices__options ?fi_StandChoices__ordered ?ifn_StandChoices__ordered ?lo_StandChoices__ordered ?co_StandChoices__ordered ?kp_StandChoices__ordered ?ad__is_node ?lo__is_node ?co__is_node ?kp__is_node ?ad__is_bare ?lo__is_bare ?co__is_bare ?kp__is_bare ?ad__are_branches ?lo__are_branches ?co__are_branches ?kp__are_branches ?tb__are_branches ?re__are_branches ?ad__is_by ?lo__is_by ?co__is_by ?kp__is_by ?tb__is_by ?re__is_by ?ad__is_full ?lo__is_full ?co__is_full ?kp__is_full ?ad__shows ?lo__shows ?co__shows ?kp__shows ?ad_shows_posts ?lo_shows_posts ?co_shows_posts ?kp_shows_posts ?ad__law_held ?lo__law_held ?co__law_held ?kp__law_held ?ad__law_draw ?lo__law_draw ?co__law_draw ?kp__law_draw ?ad__law_some ?lo__law_some ?co__law_some ?kp__law_some ?ad__law_names ?lo__law_names ?co__law_names ?kp__law_names ?ad__law_minutes ?lo__law_minutes ?co__law_minutes ?kp__law_minutes ?ad__law_town ?lo__law_town ?co__law_town ?kp__law_town ?ad__law_shut ?lo__law_shut ?co__law_shut ?kp__law_shut ?ad__law_chart ?lo__law_chart ?co__law_chart ?kp__law_chart ?ad__law_near ?lo__law_near ?co__law_near ?kp__law_near ?ad__law_stage ?lo__law_stage ?co__law_stage ?kp__law_stage ?ad__law_left ?lo__law_left ?co__law_left ?kp__law_left ?ad__law_sets ?lo__law_sets ?co__law_sets ?kp__law_sets ?ad__law_fewest ?lo__law_fewest ?co__law_fewest ?kp__law_fewest ?ad__law_covering ?lo__law_covering ?co__law_covering ?kp__law_covering ?ad__law_is_node ?lo__law_is_node ?co__law_is_node ?kp__law_is_node ?ad__law_are_just ?lo__law_are_just ?co__law_are_just ?kp__law_are_just ?ad__law_shows ?lo__law_shows ?co__law_shows ?kp__law_shows ?ad__law_tree_by ?lo__law_tree_by ?co__law_tree_by ?kp__law_tree_by ?ad_law ?lo_law ?co_law ?kp_law ?no_zip ?no_sorted ?no_isinstance ?no_tuple ?no_len ?no_all ?no_list ?no_range ?no_int ?no_max ?no_min ?no_dict ?no_any ?no_str
    (case ad_Near => k_is)
    (case pg_Near => k_is)
    (case hd_Near => k_is)
    (case po_Near => k_is)
    (case sa_Near => k_is)
    (case mk_Near => k_is)
    (case kc_Near => k_is)
    (case na_Near_goals => k_is)
    (case na_Near_table => k_is)
    (case ad_StandChoices => k_is)
    (case pg_StandChoices => k_is)
    (case hd_StandChoices => k_is)
    (case po_StandChoices => k_is)
    (case sa_StandChoices => k_is)
    (case mk_StandChoices => k_is)
    (case kc_StandChoices => k_is)
    (case na_StandChoices_near => k_is)
    (case na_StandChoices_stands => k_is)
    (case ad__is_near => k_is)
    (case lo__is_near => k_is)
    (case co__is_near => k_is)
    (case kp__is_near => k_is)
    (case ad_reached => k_is)
    (case lo_reached => k_is)
    (case co_reached => k_is)
    (case kp_reached => k_is)
    (case ad_bare => k_is)
    (case lo_bare => k_is)
    (case co_bare => k_is)
    (case kp_bare => k_is)
    (case ad_lost => k_is)
    (case lo_lost => k_is)
    (case co_lost => k_is)
    (case kp_lost => k_is)
    (case fi_Near____init__ => k_is)
    (case ifn_Near____init__ => k_is)
    (case lo_Near____init__ => k_is)
    (case co_Near____init__ => k_is)
    (case kp_Near____init__ => k_is)
    (case fi_Near__reaches => k_is)
    (case ifn_Near__reaches => k_is)
    (case lo_Near__reaches => k_is)
    (case co_Near__reaches => k_is)
    (case kp_Near__reaches => k_is)
    (case fi_Near__lacking => k_is)
    (case ifn_Near__lacking => k_is)
    (case lo_Near__lacking => k_is)
    (case co_Near__lacking => k_is)
    (case kp_Near__lacking => k_is)
    (case fi_StandChoices____init__ => k_is)
    (case ifn_StandChoices____init__ => k_is)
    (case lo_StandChoices____init__ => k_is)
    (case co_StandChoices____init__ => k_is)
    (case kp_StandChoices____init__ => k_is)
    (case fi_StandChoices__lacking => k_is)
    (case ifn_StandChoices__lacking => k_is)
    (case lo_StandChoices__lacking => k_is)
    (case co_StandChoices__lacking => k_is)
    (case kp_StandChoices__lacking => k_is)
    (case fi_StandChoices__options => k_is)
    (case ifn_StandChoices__options => k_is)
    (case lo_StandChoices__options => k_is)
    (case co_StandChoices__options => k_is)
    (case kp_StandChoices__options => k_is)
    (case fi_StandChoices__ordered => k_is)
    (case ifn_StandChoices__ordered => k_is)
    (case lo_StandChoices__ordered => k_is)
    (case co_StandChoices__ordered => k_is)
    (case kp_StandChoices__ordered => k_is)
    (case ad__is_node => k_is)
    (case lo__is_node => k_is)
    (case co__is_node => k_is)
    (case kp__is_node => k_is)
    (case ad__is_bare => k_is)
    (case lo__is_bare => k_is)
    (case co__is_bare => k_is)
    (case kp__is_bare => k_is)
    (case ad__are_branches => k_is)
    (case lo__are_branches => k_is)
    (case co__are_branches => k_is)
    (case kp__are_branches => k_is)
    (case tb__are_branches => first | k_is | rfl | decide +kernel)
    (case re__are_branches => first | k_is | rfl | decide +kernel)
    (case ad__is_by => k_is)
    (case lo__is_by => k_is)
    (case co__is_by => k_is)
    (case kp__is_by => k_is)
    (case tb__is_by => first | k_is | rfl | decide +kernel)
    (case re__is_by => first | k_is | rfl | decide +kernel)
    (case ad__is_full => k_is)
    (case lo__is_full => k_is)
    (case co__is_full => k_is)
    (case kp__is_full => k_is)
    (case ad__shows => k_is)
    (case lo__shows => k_is)
    (case co__shows => k_is)
    (case kp__shows => k_is)
    (case ad_shows_posts => k_is)
    (case lo_shows_posts => k_is)
    (case co_shows_posts => k_is)
    (case kp_shows_posts => k_is)
    (case ad__law_held => k_is)
    (case lo__law_held => k_is)
    (case co__law_held => k_is)
    (case kp__law_held => k_is)
    (case ad__law_draw => k_is)
    (case lo__law_draw => k_is)
    (case co__law_draw => k_is)
    (case kp__law_draw => k_is)
    (case ad__law_some => k_is)
    (case lo__law_some => k_is)
    (case co__law_some => k_is)
    (case kp__law_some => k_is)
    (case ad__law_names => k_is)
    (case lo__law_names => k_is)
    (case co__law_names => k_is)
    (case kp__law_names => k_is)
    (case ad__law_minutes => k_is)
    (case lo__law_minutes => k_is)
    (case co__law_minutes => k_is)
    (case kp__law_minutes => k_is)
    (case ad__law_town => k_is)
    (case lo__law_town => k_is)
    (case co__law_town => k_is)
    (case kp__law_town => k_is)
    (case ad__law_shut => k_is)
    (case lo__law_shut => k_is)
    (case co__law_shut => k_is)
    (case kp__law_shut => k_is)
    (case ad__law_chart => k_is)
    (case lo__law_chart => k_is)
    (case co__law_chart => k_is)
    (case kp__law_chart => k_is)
    (case ad__law_near => k_is)
    (case lo__law_near => k_is)
    (case co__law_near => k_is)
    (case kp__law_near => k_is)
    (case ad__law_stage => k_is)
    (case lo__law_stage => k_is)
    (case co__law_stage => k_is)
    (case kp__law_stage => k_is)
    (case ad__law_left => k_is)
    (case lo__law_left => k_is)
    (case co__law_left => k_is)
    (case kp__law_left => k_is)
    (case ad__law_sets => k_is)
    (case lo__law_sets => k_is)
    (case co__law_sets => k_is)
    (case kp__law_sets => k_is)
    (case ad__law_fewest => k_is)
    (case lo__law_fewest => k_is)
    (case co__law_fewest => k_is)
    (case kp__law_fewest => k_is)
    (case ad__law_covering => k_is)
    (case lo__law_covering => k_is)
    (case co__law_covering => k_is)
    (case kp__law_covering => k_is)
    (case ad__law_is_node => k_is)
    (case lo__law_is_node => k_is)
    (case co__law_is_node => k_is)
    (case kp__law_is_node => k_is)
    (case ad__law_are_just => k_is)
    (case lo__law_are_just => k_is)
    (case co__law_are_just => k_is)
    (case kp__law_are_just => k_is)
    (case ad__law_shows => k_is)
    (case lo__law_shows => k_is)
    (case co__law_shows => k_is)
    (case kp__law_shows => k_is)
    (case ad__law_tree_by => k_is)
    (case lo__law_tree_by => k_is)
    (case co__law_tree_by => k_is)
    (case kp__law_tree_by => k_is)
    (case ad_law => k_is)
    (case lo_law => k_is)
    (case co_law => k_is)
    (case kp_law => k_is)
    (case no_zip => k_is)
    (case no_sorted => k_is)
    (case no_isinstance => k_is)
    (case no_tuple => k_is)
    (case no_len => k_is)
    (case no_all => k_is)
    (case no_list => k_is)
    (case no_range => k_is)
    (case no_int => k_is)
    (case no_max => k_is)
    (case no_min => k_is)
    (case no_dict => k_is)
    (case no_any => k_is)
    (case no_str => k_is)
