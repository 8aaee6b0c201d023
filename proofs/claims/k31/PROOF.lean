import PyProof.Rows.All
import Wide.All
import OpenK.AllK
import Wide.FinOn
import HandS.Base
import HandS.Call
import HandS.List
import HandS.Comp
import HandS.Ends
import HandS.Dict
import HandS.Iter
import HandS.Text
import HandS.Words
import PyProof.AutoSeq1
import PyProof.ReprRoads
import PyProof.CallFns
import HandS.IsInst
import HandS.Flow
import HandS.Style
import PyProof.FitsInt
import PyProof.StrLawsRepr
import HandS.Strs
import HandS.Zip
import HandS.Rev
import KE.GoesMore
import PyProof.EnumMake
import PyProof.Draws
import HandS.NoneIn
import KE.SortData
import HandS.Conv
import KE.DataCmp
import KE.DataMinMax
import PyProof.Rows.RowBridgeK
import KE.DataFind
import HandS.SetFor
import PyProof.Rows.CallKwBuiltin
import HandS.DictComp
import PyProof.DictUpdate
import HandS.Star
import HandS.Deep
import HandS.AnyAll
import HandS.GenOver
import PyProof.GenQ
import PyProof.ConsumeS
import HandS.EndTab
import KE.KStrOpen
import PyProof.ListStr
import PyProof.StrOps2
import KE.KxField
import HandS.FStr
import PySem.Challenge.RW_wagoncalls_k31_what_plans_are
set_option Elab.async false
set_option linter.all false
set_option maxRecDepth 100000
set_option maxHeartbeats 4000000
/-! Wagon, part 1: promises of defs that are called where no repr runs (so that what repr tells is known). -/
namespace Wg
open PySem PySem.Spec PyProof.Rows L2

/-- room for calls, and no repr under way -/
structure Rm (k : Nat) (A : Around) : Prop where
  rm : Room k A
  gd : A.guards = some []
theorem Rm.mono {j k : Nat} {A : Around} (r : Rm k A) (h : j ≤ k) : Rm j A := ⟨r.rm.mono h, r.gd⟩
theorem Rm.deep {k : Nat} {A : Around} (r : Rm (k + 1) A) (v : Env) : Rm k (A.deeper v) := ⟨r.rm.deeper v, r.gd⟩

/-- the def at f keeps the promise sp -/
structure Keeps (P : Program) (w : World) (K : PySem.W.Frag) (mg : Str → Option Value) (b : Heap) (CX : CXT) (k : Nat) (f : Addr) (fd : FuncData) (ps : List Str) (sp : Sp) : Prop where
  len : ∀ vs H Q E, sp vs H Q E → vs.length = ps.length
  run : ∀ (A : Around) (o : List Env) (s : Shared) (H : Hp) (g : Args) (us : List Value) (vs : List V) (Q : VK) (E : XK),
    Rm k A → Env0 P w K mg b A o s H → BindsTo s fd g (ps.zip us) → Vals vs us → sp vs H Q E →
      codeAny (model P w) A (.call (.ref f) g) (CR CX o P w H s Q E) s
theorem Keeps.up {P : Program} {w : World} {K : PySem.W.Frag} {mg : Str → Option Value} {b : Heap} {CX : CXT} {j k : Nat} {f : Addr} {fd : FuncData} {ps : List Str} {sp : Sp}
    (F : Keeps P w K mg b CX j f fd ps sp) (h : j ≤ k) : Keeps P w K mg b CX k f fd ps sp :=
  ⟨F.len, fun A o s H g us vs Q E hr => F.run A o s H g us vs Q E (hr.mono h)⟩
theorem Keeps.weak {P : Program} {w : World} {K : PySem.W.Frag} {mg : Str → Option Value} {b : Heap} {CX : CXT} {k : Nat} {f : Addr} {fd : FuncData} {ps : List Str} {sp sp' : Sp}
    (F : Keeps P w K mg b CX k f fd ps sp) (h : ∀ vs H Q E, sp' vs H Q E → sp vs H Q E) : Keeps P w K mg b CX k f fd ps sp' :=
  ⟨fun vs H Q E q => F.len vs H Q E (h _ _ _ _ q), fun A o s H g us vs Q E h1 h2 h3 h4 h5 => F.run A o s H g us vs Q E h1 h2 h3 h4 (h _ _ _ _ h5)⟩

section
variable {X : Cx} {CX : CXT} {k : Nat} {f : Addr} {fd : FuncData} {ps : List Str} {sp : Sp} {E : XK} {x : Str} {p pos : Pos} {e : Expr} {es : List Expr} {t : TA}
theorem go_fn {pins : List (Addr × Obj)} {σ : L2.St} {H : Hp} {s : Shared} {Q : VK} {us : List Value} {vs : List V}
    (F : Keeps X.prog X.w X.K X.mg X.base CX k f fd ps sp) (hr : Rm k X.A) (hb : Binds X.K fd ps []) (hx : Passes CX X E)
    (I : Inv X pins σ H s) (r : Vals vs us) (h : sp vs H Q E) : wpAny (model X.prog X.w) X.A (call (.ref f) us) (EP X pins σ Q) X.xe s := by
  have hl : (us ++ []).length = ps.length := by
    rw [List.append_nil, ← r.length]
    exact F.len _ _ _ _ h
  have hbs := hb s us I.kIn hl
  rw [List.append_nil] at hbs
  have run := F.run X.A X.stack s H ⟨us, []⟩ us vs Q E hr I.env0 hbs r h
  refine wpAny_call (codeAny_mono run fun res s' hq => ?_)
  match res, hq with
  | .error e, hq => exact hx pins σ H s e s' I hq
  | .ok (.ret u), hq => exact I.after hq
  | .ok .next, hq => exact hq.elim
  | .ok .brk, hq => exact hq.elim
  | .ok .cont, hq => exact hq.elim
/-- f(e, ..), f a def of the text -/
def tGo (sp : Sp) (E : XK) (t : TA) : TE := fun σ H Q => t σ H fun vs H1 => sp vs H1 Q E
theorem pe_go (F : Keeps X.prog X.w X.K X.mg X.base CX k f fd ps sp) (hr : Rm k X.A) (hg : Gl X x) (hm : X.mg x = some (.ref f)) (hk : PySem.W.keepIn X.K (.ref f) = true)
    (hb : Binds X.K fd ps []) (hx : Passes CX X E) (ha : PA X (e :: es) t) (hdb : (x == ("__debug__" : Str)) = false := by decide)
    (he : starEach (e :: es) X.env = (false, eval e X.env) :: starEach es X.env := by rfl) (hpl : (backTo pos (starEach es X.env)).any (·.1) = false := by rfl) :
    PE X (.Call (.Name x p) (e :: es) [] pos) (tGo sp E t) := by
  constructor
  intro pins s σ H Q I h
  refine wpAny_Call_Name_kw (ld_glob I hg hm ?_ hdb)
  have args := ha.run pos pins s σ H _ I h
  refine PySem.W.callWith_K (h₀ := X.base) I.ok.mod.kin hk (thn args fun us s1 hh => ?_) he hpl
  obtain ⟨vs, H1, I1, r, q⟩ := hh
  exact ⟨I1.kIn, go_fn F hr hb hx I1 r q⟩
theorem pe_go0 (F : Keeps X.prog X.w X.K X.mg X.base CX k f fd ps sp) (hr : Rm k X.A) (hg : Gl X x) (hm : X.mg x = some (.ref f)) (hk : PySem.W.keepIn X.K (.ref f) = true)
    (hb : Binds X.K fd ps []) (hx : Passes CX X E) (hdb : (x == ("__debug__" : Str)) = false := by decide) : PE X (.Call (.Name x p) [] [] pos) (tGo sp E tNil) := by
  constructor
  intro pins s σ H Q I h
  refine wpAny_Call_Name_kw (ld_glob I hg hm ?_ hdb)
  exact PySem.W.callWith_K0 I.kIn hk (go_fn (us := []) F hr hb hx I .nil h)
end

section
variable {P : Program} {w : World} {K : PySem.W.Frag} {mg : Str → Option Value} {b : Heap}
/-- a def keeps its promise, by its body -/
theorem keeps_of {CX : CXT} {x qual : Str} {st : Stmt} {f : Addr} {fd : FuncData} {N ps : List Str} {k : Nat} {sp : Sp} (F : Fun K x qual st f fd) (S : FnScope N ps (defScope st))
    (len : ∀ vs H Q E, sp vs H Q E → vs.length = ps.length)
    (body : ∀ (cdv : Value) (A : Around) (o : List Env) (s : Shared) (H : Hp) (vs : List V) (Q : VK) (E : XK), Rm k (A.deeper (envOfC qual (defScope st) s.heap.objs.size f cdv)) → sp vs H Q E →
      ∃ t, PSs (cxOf CX P w K mg b N qual (defScope st) f cdv A o s H E) (defBody st) t ∧ t { nx := fun _ H' => Q .non H', rt := Q } (start N vs) H) :
    Keeps P w K mg b CX (k + 1) f fd ps sp := by
  obtain ⟨oc, od, kV, doc, pm, an, cdv, ct, osl, rfl, lk, hcd⟩ := F.ex
  constructor
  · exact len
  intro A o s H g us vs Q E hr e0 hb r hsp
  have hl := len _ _ _ _ hsp
  have up : ∀ {a : Addr} {ob : Obj}, b.get? a = some ob → s.heap.get? a = some ob := fun {a ob} q => (e0.bs a ob q).1
  have inK : K.In s.heap := e0.mod.kin.keeps fun _ _ q => up q
  have nolim : s.heap.NoLimit := e0.mod.nolimit.keeps fun _ _ q => up q
  have kinds : ∀ y ∈ ps.zip us, (defScope st).names.lookup y.1 = some .local ∨ ((defScope st).names.lookup y.1 = some .cell ∧ ((cellsFrom (s.heap.objs.size + 1) (defScope st).names []).lookup y.1).isSome = true) := by
    rintro ⟨n, v⟩ hy
    have hn := S.par n (List.of_mem_zip hy).1
    exact hn.imp id fun q => ⟨q, PySem.W.cellsFrom_some _ _ _ (.inl q)⟩
  have recd := PySem.W.codeRec_of inK hcd
  refine codeAny_call_function hr.rm.depth (inK _ _ lk) rfl S.co S.gen rfl recd (hb _ _ _ _ ?_)
  refine wpAny_newFunctionEnv_cells S.kind kinds ?_
  intro env he s1 y
  subst he
  refine ⟨nolim.keeps y.toInCall.keep, codeAny_func ?_⟩
  obtain ⟨t, ht, hq⟩ := body cdv A o s H vs Q E (hr.deep _) hsp
  have I := inv_start (CX := CX) (E := E) S hr.rm.hd e0 hl r y
  refine wpAny_mono (ht.run [] s1 (start N vs) H _ I hq) ?_ fun _ _ q => q
  intro fl s' hs
  match fl, hs with
  | .ret u, hs =>
    obtain ⟨v, σ', H', J, rv, q⟩ := hs
    exact ⟨v, H', J.os, J.bare, J.base, J.hok, rv, q⟩
  | .next, hs =>
    obtain ⟨σ', H', J, q⟩ := hs
    exact ⟨.non, H', J.os, J.bare, J.base, J.hok, rfl, q⟩
  | .brk, hs => exact hs.elim fun _ z => z.elim fun _ y => y.2.elim
  | .cont, hs => exact hs.elim fun _ z => z.elim fun _ y => y.2.elim
theorem keeps0 {x qual : Str} {st : Stmt} {f : Addr} {fd : FuncData} {N ps : List Str} {k : Nat} {sp : Sp} (F : Fun K x qual st f fd) (S : FnScope N ps (defScope st))
    (len : ∀ vs H Q E, sp vs H Q E → vs.length = ps.length)
    (body : ∀ (cdv : Value) (A : Around) (o : List Env) (s : Shared) (H : Hp) (vs : List V) (Q : VK) (E : XK), Rm k (A.deeper (envOfC qual (defScope st) s.heap.objs.size f cdv)) → sp vs H Q E →
      ∃ t, PSs (cxOf CX0 P w K mg b N qual (defScope st) f cdv A o s H E).nox (defBody st) t ∧ t { nx := fun _ H' => Q .non H', rt := Q } (start N vs) H) :
    Keeps P w K mg b CX0 (k + 1) f fd ps sp :=
  keeps_of F S len fun cdv A o s H vs Q E hr h => (body cdv A o s H vs Q E hr h).elim fun t q => ⟨t, q.1.nox, q.2⟩
end

/-- the law's call, from its promise -/
theorem law_end {P : Program} {w : World} {K : PySem.W.Frag} {mg mb : Str → Option Value} {k : Nat} {fa a : Addr} {fd : FuncData} {x : Str} {sp : Sp} {s : Shared} {vs : List Value} {ns : List Int}
    (KX : K.In s.heap) (hns : s.heap.Ns mainGlobals mg) (hb : s.heap.Ns builtinsNs mb) (hbb : ∀ x : Str, x ≠ "__name__" → mb x = bootBuiltins x) (hlim : s.heap.NoLimit) (hg : s.gens = #[])
    (ha : s.heap.get? a = some { cls := .type "list", data := .seq vs.toArray }) (hi : IntsAre vs ns) (hl : ns.length ≤ sizeLine) (hr : Rm k callerA)
    (F : ∀ b : Heap, K.In b → b.Ns mainGlobals mg → Keeps P w K mg b CX0 k fa fd [x] sp) (hbind : ∀ (s : Shared) (u : Value), BindsTo s fd ⟨[u], []⟩ [(x, u)])
    (hsp : ∀ H : Hp, Only H → SqL K H a (ns.map V.int) → sp [.ref a] H (fun v _ => v = .bl true) fun _ _ _ => False) :
    codeAny (model P w) callerA (.call (.ref fa) ⟨[.ref a], []⟩) (fun r s' => r = .ok (.ret (.bool true)) ∧ OldK s.heap s'.heap ∧ s'.os = s.os ∧ AllBare s'.gens) s := by
  -- a promise at callerA alone, dressed as one of the layer's at that place
  have lenV := hi.length
  have rv := vals_ints hi
  suffices core : ∀ H : Hp, Only H → SqL K H a (ns.map V.int) → HOk P w H s.heap → (∀ c, H c ≠ none → c = a) → (H a ≠ none → K.lookup a = none) →
      codeAny (model P w) callerA (.call (.ref fa) ⟨[.ref a], []⟩) (fun r s' => r = .ok (.ret (.bool true)) ∧ OldK s.heap s'.heap ∧ s'.os = s.os ∧ AllBare s'.gens) s by
    match hk : K.lookup a with
    | some o =>
      have eo := (KX a o hk).symm.trans ha
      obtain rfl := Option.some.inj eo
      refine core (fun _ => none) (fun _ => .inl rfl) (.inr ⟨_, vs.toArray, _, hk, rfl, rfl, rfl, ?_, by simpa using rv⟩) ?_ (fun c z => absurd rfl z) (fun z => absurd rfl z)
      · rw [List.size_toArray, lenV]; exact hl
      · intro c u z; exact nomatch z
    | none =>
      let H0 : Hp := fun c => if c = a then some (.frz { cls := .type "list", data := .seq vs.toArray } (.lst (ns.map V.int))) else none
      have at0 : H0 a = some (.frz { cls := .type "list", data := .seq vs.toArray } (.lst (ns.map V.int))) := if_pos rfl
      have ne0 : ∀ c, c ≠ a → H0 c = none := fun c hc => if_neg hc
      refine core H0 (fun c => ?_) (.inl (.inr ⟨_, at0⟩)) (fun c u z => ?_) (fun c z => ?_) fun _ => hk
      · by_cases hc : c = a
        · exact .inr ⟨_, _, by rw [hc]; exact at0⟩
        · exact .inl (ne0 c hc)
      · by_cases hc : c = a
        · subst hc
          obtain rfl := Option.some.inj (at0.symm.trans z)
          exact ⟨ha, by rw [List.length_map]; exact hl, vs, _, rv, ha⟩
        · exact nomatch (ne0 c hc).symm.trans z
      · exact Classical.byContradiction fun hc => z (ne0 c hc)
  intro H hO hS hok hA hK
  have only : ∀ {c : Addr} {u : HO}, H c = some u → c = a := fun {c u} q => hA c (by rw [q]; exact Option.some_ne_none u)
  have stays : ∀ {c : Addr} {o : Obj} {es : Array DictEntry} {ep : Nat}, s.heap.get? c = some o → o.data = .dict es ep → H c = none := by
    intro c o es ep e d
    match q : H c with
    | none => rfl
    | some u =>
      rw [only q, ha] at e
      obtain rfl := Option.some.inj e
      cases (show Data.seq vs.toArray _ = Data.dict es ep from d)
  have ns' : ∀ {c : Addr} {m : Str → Option Value}, s.heap.Ns c m → (hidT s.heap H).Ns c m := by
    rintro c m ⟨o, es, ep, e, d, r⟩
    exact ⟨o, es, ep, hidT_get e (stays e d), d, r⟩
  have kin : K.In (hidT s.heap H) := by
    intro c o e
    refine hidT_get (KX c o e) ?_
    match q : H c with
    | none => rfl
    | some u =>
      have ec := only q
      subst ec
      rw [hK (by rw [q]; exact Option.some_ne_none u)] at e
      cases e
  obtain ⟨mc, l1, l2⟩ := hlim
  have M : Mod K mg (hidT s.heap H) := ⟨kin, ns' hns, ⟨mb, ns' hb, hbb⟩, ⟨mc, ns' l1, l2⟩⟩
  have e0 : Env0 P w K mg (hidT s.heap H) callerA [] s H :=
    ⟨rfl, M, fun c o e => of_hidT e, Nat.le_of_eq (hidT_size _ _), trivial, fun c hc => (List.not_mem_nil hc).elim, hok, .of_eq hg⟩
  have run := (F _ kin (ns' hns)).run callerA [] s H ⟨[.ref a], []⟩ [.ref a] [.ref a] _ _ hr e0 (hbind s (.ref a)) (.cons rfl .nil) (hsp H hO hS)
  refine codeAny_mono run fun res s' hq => ?_
  match res, hq with
  | .error e, hq => exact hq.elim
  | .ok .next, hq => exact hq.elim
  | .ok .brk, hq => exact hq.elim
  | .ok .cont, hq => exact hq.elim
  | .ok (.ret u), hq =>
    obtain ⟨v, H', os, bare, un, hok', r', q⟩ := hq
    obtain rfl : v = .bl true := q
    obtain rfl : u = Value.bool true := r'
    refine ⟨rfl, OldK.of_keep fun c o e => ?_, os, bare⟩
    rcases hO c with z | ⟨ob, xs, z⟩
    · exact un.keep c o e z List.not_mem_nil List.not_mem_nil
    · have z1 := (hok c _ z).1
      have z2 := (hok' c _ (un.frzs c ob _ z)).1
      exact z2.trans (z1.symm.trans e)

theorem walk_end {l : PySem.W.OpenLaw} {n k : Nat} {q : Program} {loose : List Str} {XP : (Str → Option Value) → Heap → Prop} {YP : World → Heap → Prop} {d : DefRec} {K : Params → PySem.W.Frag} {sp : PySem.W.Frag → Sp} {x : Str}
    (hn : l.most = some n) (hn2 : n ≤ sizeLine) (hdf : d.params.defaults = []) (hr : Rm k callerA) (hY : ∀ (w : World) (h : Heap), YP w h → (K w.params).In h)
    (F : ∀ (w : World) (mg : Str → Option Value) (fa : Addr) (h : Heap), (K w.params).In h → h.Ns mainGlobals mg → mg d.name = some (.ref fa) →
      ∃ fd : FuncData, (∀ (s : Shared) (u : Value), BindsTo s fd ⟨[u], []⟩ [(x, u)]) ∧
        ∀ b : Heap, (K w.params).In b → b.Ns mainGlobals mg → Keeps l.prog w (K w.params) mg b CX0 k fa fd [x] (sp (K w.params)))
    (hsp : ∀ (K : PySem.W.Frag) (H : Hp) (a : Addr) (ns : List Int), ns.length ≤ n → Only H → SqL K H a (ns.map V.int) → sp K [.ref a] H (fun v _ => v = .bl true) fun _ _ _ => False) :
    PySem.W.WalkO q loose XP YP l.row.toRowW d [] (fun f vs => PySem.call f vs) := by
  refine Att.attach_call hn hdf ?_
  intro w s₀ s₁ mg mb fa o pm cd doc a vs ns G Y ho hd hcd hmg hobj hints hlen hg
  have kin := hY w _ Y
  obtain ⟨fd, hb, hF⟩ := F w mg fa _ kin G.T.g hmg
  exact law_end kin G.T.g G.T.b G.T.builtins G.T.nolimit hg hobj hints (Nat.le_trans hlen hn2) hr hF hb fun H hO hS => hsp _ H a ns hlen hO hS
end Wg

/-! Wagon, part 2: heaps that are not written out, and the rules of operators, calls and methods in that style. -/
namespace Wg
open PySem PySem.Spec PyProof.Rows L2

/-- all but what stands at S is kept -/
def Keep (S : List Addr) (H H' : Hp) : Prop := ∀ b o, b ∉ S → H b = some o → H' b = some o
theorem Keep.at {S : List Addr} {H H' : Hp} {b : Addr} {o : HO} (k : Keep S H H') (n : b ∉ S) (h : H b = some o) : H' b = some o := k b o n h
theorem Keep.refl (S : List Addr) (H : Hp) : Keep S H H := fun _ _ _ h => h
theorem Keep.trans {S : List Addr} {H H1 H2 : Hp} (a : Keep S H H1) (b : Keep S H1 H2) : Keep S H H2 := fun c o n h => b c o n (a c o n h)
theorem Keep.wide {S T : List Addr} {H H' : Hp} (k : Keep S H H') (h : ∀ b ∈ S, b ∈ T) : Keep T H H' := fun b o n q => k b o (fun z => n (h b z)) q
theorem Keep.all {S : List Addr} {H H' : Hp} (k : Keep [] H H') : Keep S H H' := k.wide fun _ h => (List.not_mem_nil h).elim
theorem Keep.free {S : List Addr} {H H' : Hp} {b : Addr} (k : Keep S H H') (n : b ∉ S) (h : H' b = none) : H b = none := by
  match q : H b with
  | none => rfl
  | some o => exact nomatch h.symm.trans (k b o n q)
theorem Keep.new {S : List Addr} {H : Hp} {p : Addr} {o : HO} (h : H p = none) : Keep S H (upd H p o) := fun b u _ q => by
  rw [upd_ne (ne_of_none q h)]
  exact q
theorem Keep.set {H : Hp} {p : Addr} {o : HO} : Keep [p] H (upd H p o) := fun b u n q => by
  rw [upd_ne (fun z : b = p => n (by rw [z]; exact List.mem_singleton.mpr rfl))]
  exact q
theorem nin0 {b : Addr} : b ∉ ([] : List Addr) := List.not_mem_nil
theorem nin1 {a b : Addr} (h : b ≠ a) : b ∉ [a] := fun z => h (List.mem_singleton.mp z)
/-- a tuple that stands still, of no dict of its own -/
def Tup (H : Hp) (a : Addr) (xs : List V) : Prop := ∃ ob : Obj, H a = some (.frz ob (.tup xs)) ∧ ob.dict = none ∧ ob.slots = #[]
theorem Tup.sq {K : PySem.W.Frag} {H : Hp} {a : Addr} {xs : List V} (h : Tup H a xs) : SqT K H a xs := let ⟨ob, e, _⟩ := h; .inl (.inr ⟨ob, e⟩)
theorem Tup.keep {S : List Addr} {H H' : Hp} {a : Addr} {xs : List V} (h : Tup H a xs) (k : Keep S H H') (n : a ∉ S) : Tup H' a xs := let ⟨ob, e, d⟩ := h; ⟨ob, k a _ n e, d⟩
theorem Tup.inj {H : Hp} {a : Addr} {xs ys : List V} (h : Tup H a xs) (h' : Tup H a ys) : xs = ys := by
  obtain ⟨o1, e1, _⟩ := h
  obtain ⟨o2, e2, _⟩ := h'
  have q := Option.some.inj (e1.symm.trans e2)
  injection q with _ q
  exact HO.tup.inj q
theorem Tup.there {H : Hp} {a : Addr} {xs : List V} (h : Tup H a xs) : ∃ o, H a = some o := let ⟨ob, e, _⟩ := h; ⟨_, e⟩
theorem Tup.neL {H : Hp} {a b : Addr} {xs ys : List V} (h : Tup H a xs) (h' : H b = some (.lst ys)) : a ≠ b := fun z => by
  obtain ⟨o1, e1, _⟩ := h
  rw [z, h'] at e1
  cases e1
theorem Tup.neD {H : Hp} {a b : Addr} {xs : List V} {ys : List (Key × V)} (h : Tup H a xs) (h' : H b = some (.dK ys)) : a ≠ b := fun z => by
  obtain ⟨o1, e1, _⟩ := h
  rw [z, h'] at e1
  cases e1
theorem lst_sq {K : PySem.W.Frag} {H : Hp} {a : Addr} {xs : List V} (h : H a = some (.lst xs)) : SqL K H a xs := .inl (.inl h)
theorem sq_keep {K : PySem.W.Frag} {H H' : Hp} {S : List Addr} {a : Addr} {xs : List V} (h : SqL K H a xs) (k : Keep S H H') (n : a ∉ S) : SqL K H' a xs := by
  rcases h with (h | ⟨o, h⟩) | h
  · exact .inl (.inl (k _ _ n h))
  · exact .inl (.inr ⟨o, k _ _ n h⟩)
  · exact .inr h

/-- a new object o comes -/
def Mk (H : Hp) (o : HO) (Q : VK) : Prop := ∀ p H', H p = none → Keep [] H H' → H' p = some o → Q (.ref p) H'
/-- a new tuple comes -/
def Mt (H : Hp) (xs : List V) (Q : VK) : Prop := ∀ p H', H p = none → Keep [] H H' → Tup H' p xs → Q (.ref p) H'
/-- what stands at a is o from now on -/
def Ch (H : Hp) (a : Addr) (o : HO) (R : Hp → Prop) : Prop := ∀ H', Keep [a] H H' → H' a = some o → R H'
theorem Mk.at {H : Hp} {o : HO} {Q : VK} (h : Mk H o Q) (p : Addr) (n : H p = none) : Q (.ref p) (upd H p o) := h p _ n (Keep.new n) upd_same
theorem Ch.at {H : Hp} {a : Addr} {o : HO} {R : Hp → Prop} (h : Ch H a o R) : R (upd H a o) := h _ Keep.set upd_same

section
variable {X : Cx} {pins : List (Addr × Obj)} {σ : L2.St} {H : Hp} {s : Shared}
/-- a tuple object as the model lays it -/
abbrev tupObj (its : List Value) : Obj := { cls := .type "tuple", data := .seq its.toArray }
theorem mt_end {xs : List V} {its : List Value} {Q : VK} {t' : Nat} (I : Inv X pins σ H s) (r : Vals xs its) (z : xs.length ≤ sizeLine) (h : Mt H xs Q) :
    EP X pins σ Q (.ref s.heap.objs.size) { s with heap := s.heap.push (tupObj its), toks := t' } := by
  have n : H s.heap.objs.size = none := I.hok.fresh (Nat.le_refl _)
  have new : (s.heap.push (tupObj its)).get? s.heap.objs.size = some (tupObj its) := Heap.get?_push_size _ rfl
  refine ⟨.ref s.heap.objs.size, upd H s.heap.objs.size (.frz (tupObj its) (.tup xs)), I.laid (fun b u e => Heap.get?_push_of_some _ e) (Nat.le_refl _) ?_, rfl, ?_⟩
  · exact ⟨new, z, its, r, _, new, rfl, _, rfl⟩
  · exact h _ _ n (Keep.new n) ⟨_, upd_same, rfl, rfl⟩
/-- the object of such a tuple -/
theorem Tup.obj {a : Addr} {xs : List V} (I : Inv X pins σ H s) (h : Tup H a xs) : ∃ (its : List Value) (n : Nat), Vals xs its ∧ xs.length ≤ sizeLine ∧ s.heap.get? a = some { cls := .type "tuple", dict := none, data := .seq its.toArray n, slots := #[] } := by
  obtain ⟨ob, e, d, sl⟩ := h
  obtain ⟨h1, z, its, r, o2, h2, c, n, hd⟩ := I.hok a _ e
  have eo := Option.some.inj (h1.symm.trans h2)
  obtain ⟨c0, d0, da, s0⟩ := ob
  subst eo
  simp only at c hd d sl
  subst c hd d sl
  exact ⟨its, n, r, z, h1⟩
end

/-! ### operators -/
section
variable {X : Cx}
def uAdd (K : PySem.W.Frag) : R2 := fun x y H Q =>
  (∃ i j, x = .int i ∧ y = .int j ∧ Q (.int (i + j)) H) ∨
  (∃ i j, x = .str i ∧ y = .str j ∧ i.length + j.length ≤ sizeLine ∧ Q (.str (i ++ j)) H) ∨
  (∃ l b xs zs, x = .ref l ∧ y = .ref b ∧ H l = some (.lst xs) ∧ H b = some (.lst zs) ∧ xs.length + zs.length ≤ sizeLine ∧ Mk H (.lst (xs ++ zs)) Q) ∨
  (∃ a b xs ys, x = .ref a ∧ y = .ref b ∧ Tup H a xs ∧ Tup H b ys ∧ xs.length + ys.length ≤ sizeLine ∧ (xs = [] → Q y H) ∧ (xs ≠ [] → ys = [] → Q x H) ∧ (xs ≠ [] → ys ≠ [] → Mt H (xs ++ ys) Q))
theorem cat_none {pins : List (Addr × Obj)} {σ : L2.St} {H : Hp} {s : Shared} {a b : Addr} {ys : List V} {Q : VK} (I : Inv X pins σ H s) (ha : Tup H a []) (hb : Tup H b ys) (q : Q (.ref b) H) :
    wpAny (model X.prog X.w) X.A (binaryOp .Add (.ref a) (.ref b)) (EP X pins σ Q) X.xe s := by
  obtain ⟨its, n, r, _, ho⟩ := ha.obj I
  obtain ⟨its2, n2, r2, _, ho2⟩ := hb.obj I
  cases r
  exact concat_meets ⟨_, ho, rfl⟩ ⟨_, ho2, rfl⟩ noFill_tuple_add seq_tuple_add PySem.F.slot_tuple_add PySem.F.entry_tuple_add (PySem.F.args_tuple_add_2 _ _)
    (AutoSeq1.tuple___add___tuple_tuple_0 a #[] n b its2.toArray n2 rfl) ⟨ho, ho2, ⟨.ref b, H, I, rfl, q⟩⟩
theorem op_uAdd : OpR X (binaryOp .Add) (uAdd X.K) := by
  intro pins s σ H x y v u Q I rx ry h
  rcases h with h | h | h | ⟨a, b, xs, ys, rfl, rfl, ha, hb, z, q0, q1, q2⟩
  · exact op_add pins s σ H x y v u Q I rx ry h
  · exact op_add_str pins s σ H x y v u Q I rx ry h
  · obtain ⟨l, b, xs, zs, e1, e2, h1, h2, h3, q⟩ := h
    exact op_cat pins s σ H x y v u Q I rx ry ⟨l, b, xs, zs, e1, e2, h1, h2, h3, fun p n => q.at p n⟩
  · cases rx
    cases ry
    by_cases e : xs = []
    · subst e
      exact cat_none I ha hb (q0 rfl)
    · obtain ⟨its, r1, p1, _⟩ := I.tuple ha.sq
      obtain ⟨its2, r2, p2, _⟩ := I.tuple hb.sq
      refine HT.cat_tup p1 p2 (fun c => e (r1.nil_iff.mp c)) (fun c => ⟨.ref a, H, I, rfl, q1 e (r2.nil_iff.mp c)⟩) (fun c => ?_) (by rw [← r1.length, ← r2.length]; exact z)
      exact mt_end (t' := s.toks) I (r1.append r2) (by rw [List.length_append]; exact z) (q2 e fun d => c (r2.nil_iff.mpr d))
def uMul : R2 := fun x y H Q =>
  (∃ i j, x = .int i ∧ y = .int j ∧ CMul i j ∧ Q (.int (i * j)) H) ∨
  (∃ l k xs, x = .ref l ∧ y = .int k ∧ H l = some (.lst xs) ∧ -(2 ^ 63) ≤ k ∧ k < 2 ^ 63 ∧ xs.length * k.toNat ≤ sizeLine ∧ Mk H (.lst (List.replicate k.toNat xs).flatten) Q)
theorem op_uMul : OpR X (binaryOp .Mult) uMul := by
  intro pins s σ H x y v u Q I rx ry h
  rcases h with h | ⟨l, k, xs, e1, e2, h1, h2, h3, h4, q⟩
  · exact op_mul pins s σ H x y v u Q I rx ry h
  · exact op_rep pins s σ H x y v u Q I rx ry ⟨l, k, xs, e1, e2, h1, h2, h3, h4, fun p n => q.at p n⟩
/-- data that are compared -/
def uEq (K : PySem.W.Frag) (neg : Bool) : R2 := fun x y H Q =>
  (scal x y = true ∧ Q (.bl (if neg then !decide (x = y) else decide (x = y))) H) ∨
  (∃ d e, Dp K H x d ∧ Dp K H y e ∧ SeqAt.shaped d = true ∧ SeqAt.shaped e = true ∧ Q (.bl (if neg then !PyData.eqv d e else PyData.eqv d e)) H)
theorem op_uEq (hu : X.A.units + 64 < cLine) : OpR X (compareOp .Eq) (uEq X.K false) := by
  intro pins s σ H x y v u Q I rx ry h
  rcases h with h | h
  · exact op_eq pins s σ H x y v u Q I rx ry h
  · exact op_eqD hu pins s σ H x y v u Q I rx ry h
theorem op_uNe (hu : X.A.units + 64 < cLine) : OpR X (compareOp .NotEq) (uEq X.K true) := by
  intro pins s σ H x y v u Q I rx ry h
  rcases h with h | h
  · exact op_ne pins s σ H x y v u Q I rx ry h
  · exact op_neD hu pins s σ H x y v u Q I rx ry h
def uIn (K : PySem.W.Frag) (neg : Bool) : R2 := fun x y H Q =>
  (∃ p xs, y = .ref p ∧ (SqL K H p xs ∨ SqT K H p xs) ∧ flatV x = true ∧ xs.all flatV = true ∧ Q (.bl (if neg then !inV x xs else inV x xs)) H) ∨
  (∃ c z : Str, x = .str c ∧ y = .str z ∧ Q (.bl (if neg then !(!(Builtin.Str.occurrences z c 0 z.length 1).isEmpty) else !(Builtin.Str.occurrences z c 0 z.length 1).isEmpty)) H)
theorem op_uIn : OpR X (compareOp .In) (uIn X.K false) := by
  intro pins s σ H x y v u Q I rx ry h
  rcases h with h | ⟨i, j, e1, e2, q⟩
  · exact op_in_seq pins s σ H x y v u Q I rx ry h
  · exact op_in_str pins s σ H x y v u Q I rx ry ⟨i, j, e1, e2, q⟩
theorem op_uNotIn : OpR X (compareOp .NotIn) (uIn X.K true) := by
  intro pins s σ H x y v u Q I rx ry h
  rcases h with h | ⟨i, j, e1, e2, q⟩
  · exact op_notIn_seq pins s σ H x y v u Q I rx ry h
  · exact op_notIn_str pins s σ H x y v u Q I rx ry ⟨i, j, e1, e2, q⟩
end

/-! ### subscripts, slices -/
section
variable {X : Cx}
def uIx (K : PySem.W.Frag) : R2 := fun x y H Q =>
  (∃ p xs i v, x = .ref p ∧ y = .int i ∧ (SqL K H p xs ∨ SqT K H p xs) ∧ atI xs i = some v ∧ Q v H) ∨
  (∃ z i c, x = .str z ∧ y = .int i ∧ z.length ≤ sizeLine ∧ atI z.cps.toList i = some c ∧ Q (.str ⟨#[c]⟩) H)
theorem ix_u : IxR X (uIx X.K) := by
  intro ve se pins s σ H x y v u Q I rx ry h hs
  rcases h with ⟨p, xs, i, w, e1, e2, hq, ha, q⟩ | h
  · rcases hq with hq | hq
    · exact ix_list ve se pins s σ H x y v u Q I rx ry ⟨p, xs, i, w, e1, e2, hq, ha, q⟩ hs
    · exact ix_tup ve se pins s σ H x y v u Q I rx ry ⟨p, xs, i, w, e1, e2, hq, ha, q⟩ hs
  · exact ix_str ve se pins s σ H x y v u Q I rx ry h hs
def uSetL : V → V → V → Hp → (Hp → Prop) → Prop := fun o i v H Q => ∃ p xs k j, o = .ref p ∧ i = .int k ∧ H p = some (.lst xs) ∧ ixN xs.length k = some j ∧ Ch H p (.lst (xs.set j v)) Q
theorem set_u : PSet X uSetL := by
  intro pins s σ H o i v ov iv u Q I r1 r2 r3 h
  obtain ⟨p, xs, k, j, e1, e2, h1, h2, q⟩ := h
  exact set_list pins s σ H o i v ov iv u Q I r1 r2 r3 ⟨p, xs, k, j, e1, e2, h1, h2, q.at⟩
end
end Wg

/-! Wagon, part 3: displays, slices, calls of built-ins, repr of data. -/
namespace Wg
open PySem PySem.Spec PyProof.Rows L2

/-! ### displays -/
section
variable {X : Cx} {es : List Expr} {t : TA} {pos : Pos}
def tTupU (t : TA) : TE := fun σ H Q => t σ H fun xs H1 => xs.length ≤ sizeLine ∧ Mt H1 xs Q
def tLstU (t : TA) : TE := fun σ H Q => t σ H fun xs H1 => xs.length ≤ sizeLine ∧ Mk H1 (.lst xs) Q
theorem pe_tupU {k : Nat} (h : PA X es t) : PE X (.Tuple es k pos) (tTupU t) := by
  constructor
  intro pins s σ H Q I hq
  have run := h.run pos pins s σ H _ I hq
  refine wpAny_Tuple_spliced (thn run fun us s1 r => ?_)
  obtain ⟨xs, H1, I1, rv, z, q⟩ := r
  rw [← rv.length]
  exact ⟨z, mt_end (t' := s1.toks) I1 rv z q⟩
theorem pe_lstU (h : PA X es t) : PE X (.List es pos) (tLstU t) := by
  constructor
  intro pins s σ H Q I hq
  have run := h.run pos pins s σ H _ I hq
  refine wpAny_List_spliced (thn run fun us s1 r => ?_)
  obtain ⟨xs, H1, I1, rv, z, q⟩ := r
  rw [← rv.length]
  have n := I1.fresh
  have new : ObjOk X.prog X.w (upd H1 s1.heap.objs.size (.lst xs)) (s1.heap.push { cls := .type "list", data := .seq us.toArray }) s1.heap.objs.size (.lst xs) := ⟨z, us, 0, rv, Heap.get?_push_size _ rfl⟩
  exact ⟨z, .ref s1.heap.objs.size, _, I1.laid (t' := s1.toks) (fun b u e => Heap.get?_push_of_some _ e) (Nat.le_refl _) new, rfl, q.at _ n⟩
def tDNewU : TE := fun _ H Q => Mk H (.dK []) Q
theorem pe_dnewU : PE X (.Dict [] [] pos) tDNewU := ⟨fun pins s σ H Q I h => pe_dnewK.run pins s σ H Q I fun p n => h.at p n⟩
/-- {k: v} of two names -/
def tDic1 (i j : Nat) : TE := fun σ H Q => ∃ x : V, σ[i]? = some (some x) ∧ ∃ y : V, σ[j]? = some (some y) ∧ ∃ k : Key, x = kV k ∧ Mk H (.dK [(k, y)]) Q
theorem pe_dic1 {k v : Expr} {i j : Nat} (hk : PE X k (tVar i)) (hv : PE X v (tVar j)) : PE X (.Dict [some k] [v] pos) (tDic1 i j) := by
  constructor
  intro pins s σ H Q I h
  obtain ⟨x, e1, y, e2, kk, rfl, q⟩ := h
  refine (pe_disp (pps_cons hk hv pps_nil) rfl rfl (by simp) (by simp)).run pins s σ H Q I fun p n => ?_
  refine ⟨_, e1, _, e2, upd_same, [(kk, y)], rfl, by simp, ?_⟩
  rw [upd_upd]
  exact q.at p n
end

/-! ### slices -/
section
variable {prog : Program} {w : World} {A : Around} {E : Value → Shared → Prop} {s : Shared}
/-- t[..] of all of t is t -/
theorem cut_whole {t sl : Addr} {items : Array Value} {vl vu : Value} {lo hi : Option Int} {Q : Value → Shared → Prop} (ht : IsTup s.heap t items) (hs : s.heap.IsSliceOf sl vl vu .none) (pl : IsPart vl lo) (pu : IsPart vu hi)
    (h0 : HT.sIx items.size 0 lo = 0) (h1 : HT.sIx items.size items.size hi = items.size) (h : Q (.ref t) s) : wpAny (model prog w) A (getItem (.ref t) (.ref sl)) Q E s := by
  obtain ⟨os, hos, hcs, hds⟩ := id hs
  have tysl : s.TypeIs (.ref sl) "slice" := ⟨os, hos, hcs⟩
  unfold getItem
  try with_reducible refine wpAny_holding ?_
  first | refine wpAny_bind (wpAny_pure ?_) | skip
  refine wpAny_bind (wpAny_sequenceKey ht.typeIs (by decide) ?_)
  refine wpAny_bind (wpAny_callSpecial?_slot (name := Str.ofString "__getitem__") ht.typeIs PyProof.Rows.slot_tuple_getitem
    (wpAny_call_entry PyProof.Rows.slot_tuple_getitem ht.typeIs entry_tuple_getitem ?_ (args_tuple_getitem _ _)))
  show wpAny _ _ (Builtin.Tuple.tupleItemsOf (.ref t) >>= _) _ _ s
  refine wpAny_bind (tupleItemsOf_ ht (wpAny_bind (wpAny_typeOf tysl ?_)))
  rw [if_pos (by decide)]
  refine wpAny_bind (HT.sliceApplied_gen hs pl pu ?_)
  rw [h0, h1]
  show wpAny _ _ (if ((((0 : Nat) : Int) == 0 && (1 : Int) == 1 && (items.size - 0) == items.size) = true) then _ else _) _ _ s
  rw [if_pos (by simp)]
  refine wpAny_bind (m := Builtin.Tuple.tupleIsExact _) ?_
  unfold Builtin.Tuple.tupleIsExact
  refine wpAny_bind (wpAny_typeOf ht.typeIs (wpAny_pure ?_))
  rw [if_pos (by decide)]
  exact wpAny_bind (wpAny_rule (wpAny_pure ⟨_, rfl, wpAny_pure h⟩))
end
section
variable {X : Cx}
def uSl (K : PySem.W.Frag) : V → Option Int → Option Int → Hp → VK → Prop := fun x lo hi H Q =>
  (∃ a xs, x = .ref a ∧ SqL K H a xs ∧ Mk H (.lst (cutV xs lo hi)) Q) ∨
  (∃ z, x = .str z ∧ z.length ≤ sizeLine ∧ Q (.str (cutS z lo hi)) H) ∨
  (∃ a xs, x = .ref a ∧ Tup H a xs ∧ ((HT.sIx xs.length 0 lo = 0 ∧ HT.sIx xs.length xs.length hi = xs.length) → Q (.ref a) H) ∧
    (¬ (HT.sIx xs.length 0 lo = 0 ∧ HT.sIx xs.length xs.length hi = xs.length) → Mt H (cutV xs lo hi) Q))
theorem sl_u : SlR X (uSl X.K) := by
  intro pins s σ H x v vl vu lo hi sl Q I rx hs pl pu h
  rcases h with ⟨a, xs, e, hx, q⟩ | h | ⟨a, xs, rfl, hx, q1, q2⟩
  · exact sl_list pins s σ H x v vl vu lo hi sl Q I rx hs pl pu ⟨a, xs, e, hx, fun p n => q.at p n⟩
  · exact sl_str pins s σ H x v vl vu lo hi sl Q I rx hs pl pu h
  · cases rx
    obtain ⟨its, r, ht, hz⟩ := I.tuple hx.sq
    have hlen : its.toArray.size = xs.length := by
      rw [List.size_toArray]
      exact r.length.symm
    refine ⟨"tuple", _, PyProof.Rows.slot_tuple_getitem.lookup, ht.typeIs, ?_⟩
    by_cases c : HT.sIx xs.length 0 lo = 0 ∧ HT.sIx xs.length xs.length hi = xs.length
    · exact cut_whole ht hs pl pu (by rw [hlen]; exact c.1) (by rw [hlen]; exact c.2) ⟨.ref a, H, I, rfl, q1 c⟩
    · refine HT.getItem_tuple_cut ht hs pl pu (by rw [hlen]; exact c) ?_ (by rw [hlen]; exact hz)
      rw [hlen]
      refine mt_end (t' := s.toks) I ((r.drop (HT.sIx xs.length 0 lo)).take (HT.sIx xs.length xs.length hi - HT.sIx xs.length 0 lo)) (Nat.le_trans (cutV_length xs lo hi) hz) (q2 c)
end

/-! ### calls -/
section
variable {X : Cx}
def uList (K : PySem.W.Frag) : List V → Hp → VK → Prop := fun xs H Q => ∃ p ys, xs = [.ref p] ∧ (SqL K H p ys ∨ SqT K H p ys) ∧ Mk H (.lst ys) Q
theorem call_uList : CallR X (.type "list") (uList X.K) := by
  intro pins s σ H xs us Q I r h
  obtain ⟨p, ys, e, hq, q⟩ := h
  exact call_list_of pins s σ H xs us Q I r ⟨p, ys, e, hq, fun l n => q.at l n⟩
def uTuple (K : PySem.W.Frag) : List V → Hp → VK → Prop := fun xs H Q => ∃ p ys, xs = [.ref p] ∧ ((SqL K H p ys ∧ Mt H ys Q) ∨ (SqT K H p ys ∧ Q (.ref p) H))
theorem call_uTuple : CallR X (.type "tuple") (uTuple X.K) := by
  intro pins s σ H xs us Q I r h
  obtain ⟨p, ys, rfl, h⟩ := h
  obtain ⟨u, rfl, rx⟩ := vals1 r
  cases rx
  rcases h with ⟨hq, q⟩ | ⟨hq, q⟩
  · obtain ⟨its, r', pl, hz⟩ := I.list hq
    have hlen := r'.length
    refine call_tuple_list pl.isList (fun h' kp => ?_) (by simp only [List.size_toArray] <;> omega)
    exact mt_end (t' := s.toks) (I.kept (t' := s.toks) kp) r' hz q
  · obtain ⟨its, r', pl, hz⟩ := I.tuple hq
    exact call_tuple_same pl ⟨.ref p, H, I, rfl, q⟩
/-- what repr tells of data -/
def uRepr (K : PySem.W.Frag) : List V → Hp → VK → Prop := fun xs H Q => ∃ v d, xs = [v] ∧ Dp K H v d ∧ d.showable = true ∧ d.depth ≤ 100 ∧ d.shown.length ≤ sizeLine ∧ Q (.str d.shown) H
theorem dp_noDict {K : PySem.W.Frag} {H : Hp} : ∀ {v : V} {d : PyData}, Dp K H v d → d.hasDict = false := by
  intro v d h
  refine Dp.rec (motive_1 := fun v d _ => d.hasDict = false) (motive_2 := fun vs ds _ => PyData.hasDictAll ds = false) ?_ ?_ ?_ ?_ ?_ ?_ ?_ ?_ h
  all_goals intros
  all_goals (try simp only [PyData.hasDict, PyData.hasDictAll, Bool.or_eq_false_iff])
  all_goals (try assumption)
  all_goals (try (constructor <;> assumption))
theorem call_uRepr (hr : Rm 1 X.A) : CallR X (.builtin "repr") (uRepr X.K) := by
  intro pins s σ H xs us Q I r h
  obtain ⟨v, d, rfl, hd, hs, hdep, hz, q⟩ := h
  obtain ⟨u, rfl, rx⟩ := vals1 r
  have hu : X.A.units + (d.depth + 1) < cLine := by
    have := hr.rm.un
    omega
  have hno := dp_noDict hd
  cases hd with
  | non => cases rx; exact PySem.P.repr_of_none ⟨.str _, H, I.tok _, ⟨_, rfl⟩, q⟩
  | bl b => cases rx; exact PySem.P.repr_of_bool ⟨.str _, H, I.tok _, ⟨_, rfl⟩, q⟩
  | int i =>
    obtain ⟨t, rfl⟩ := rx
    exact PySem.P.repr_of_int (of_decide_eq_true hs) ⟨.str _, H, I.tok _, ⟨_, rfl⟩, q⟩
  | str x =>
    obtain ⟨t, rfl⟩ := rx
    exact PySem.P.repr_of_str ⟨.str _, H, I.tok _, ⟨_, rfl⟩, q⟩ hz
  | lst hl ha =>
    cases rx
    obtain ⟨as, rd⟩ := Dp.reads I _ _ _ (.lst hl ha) rfl
    refine repr_of_reads' rd hs (fun z => absurd z (by rw [hno]; exact Bool.false_ne_true)) hr.gd hu (fun _ _ e => e) (fun h' u tk hk => ?_) hz
    exact ⟨.str _, H, I.kept (t' := tk) hk, ⟨_, rfl⟩, q⟩
  | tup hl ha =>
    cases rx
    obtain ⟨as, rd⟩ := Dp.reads I _ _ _ (.tup hl ha) rfl
    refine repr_of_reads' rd hs (fun z => absurd z (by rw [hno]; exact Bool.false_ne_true)) hr.gd hu (fun _ _ e => e) (fun h' u tk hk => ?_) hz
    exact ⟨.str _, H, I.kept (t' := tk) hk, ⟨_, rfl⟩, q⟩
end
end Wg

/-! Wagon, part 4: what is walked; words for defs and their bodies. -/
namespace Wg
open PySem PySem.Spec PyProof.Rows L2

section
variable {X : Cx}
/-- an expression's truth -/
def tTru (K : PySem.W.Frag) (ta : TE) : TT := fun σ H Q => ta σ H fun x H' => ∃ k, TruV K x H' k ∧ Q k H'
theorem pt_tru {a : Expr} {ta : TE} (ha : PE X a ta) (he : ∀ whole, isTrue a X.env whole = (do let v ← whole; standAt a.pos; holding [v] (truthy v)) := by intro _; rfl) : PT X a (tTru X.K ta) := pt_truth ha he
/-- a list, a tuple or a text that is walked -/
def iU (K : PySem.W.Frag) (tl : TE) : TI := fun σ H R => tl σ H fun x H1 =>
  (∃ a xs, x = .ref a ∧ SqL K H1 a xs ∧ R (Itl K a) H1) ∨ (∃ a xs, x = .ref a ∧ SqT K H1 a xs ∧ R (Itt K a) H1) ∨ (∃ z, x = .str z ∧ R (Its z) H1)
theorem pi_u {tg l : Expr} {tl : TE} (hl : PE X l tl) : PI X tg l (iU X.K tl) := by
  constructor
  intro pins s σ H R I h
  have run := hl.run pins s σ H _ I h
  refine thn run fun v s1 e => ?_
  obtain ⟨x, H1, I1, r1, q1⟩ := e
  have new : ∀ {o : Obj} {b : Addr}, b ∈ [s1.heap.objs.size] → FpOk X pins H1 b := fun {o b} hb => by
    rw [List.mem_singleton.mp hb]
    exact I1.fpOk (Nat.le_refl _) I1.fresh
  rcases q1 with ⟨a, xs, rfl, hq, q⟩ | ⟨a, xs, rfl, hq, q⟩ | ⟨z, rfl, q⟩
  · cases r1
    obtain ⟨its, rv, p, hz⟩ := I1.list hq
    refine wpAny_pyIter_list p.isList ⟨_, [s1.heap.objs.size], _, _, H1, rfl, I1.kept (t' := s1.toks) fun b o e => Heap.get?_push_of_some _ e, turn_list a _, ?_, fun b hb => ?_, q⟩
    · exact ⟨_, Heap.get?_push_size _ rfl, rfl, rfl⟩
    · exact new (o := default) hb
  · cases r1
    obtain ⟨its, rv, p, hz⟩ := I1.tuple hq
    refine wpAny_pyIter_tuple (show s1.heap.IsTuple a its.toArray from p) ⟨_, [s1.heap.objs.size], _, _, H1, rfl, I1.kept (t' := s1.toks) fun b o e => Heap.get?_push_of_some _ e, turn_tuple a _, ?_, fun b hb => ?_, q⟩
    · exact ⟨_, Heap.get?_push_size _ rfl, rfl, rfl⟩
    · exact new (o := default) hb
  · obtain ⟨t, rfl⟩ := r1
    match ha : z.cps.all (· < 128) with
    | false => exact wpAny_pyIter_wide ha (pi_one (tk := s1.toks) I1 _ (turn_str _ z t "str_iterator" (.inr rfl)) ⟨_, Heap.get?_push_size _ rfl, rfl, rfl⟩ q)
    | true => exact wpAny_pyIter_ascii ha (pi_one (tk := s1.toks) I1 _ (turn_str _ z t "str_ascii_iterator" (.inl rfl)) ⟨_, Heap.get?_push_size _ rfl, rfl, rfl⟩ q)
end

/-- a body as a promise: the values in the slots at the beginning -/
def run (t : TS) (σ : L2.St) (H : Hp) (Q : VK) : Prop := t { nx := fun _ H' => Q .non H', rt := Q } σ H
end Wg

namespace Wg
open PySem PySem.Spec PyProof.Rows L2
/-- a def of the text where it stands -/
structure Fn (K : PySem.W.Frag) (mg : Str → Option Value) (x : Str) (st : Stmt) (f : Addr) (fd : FuncData) (ps : List Str) : Prop where
  fn : Fun K x x st f fd
  g : mg x = some (.ref f)
  b : Binds K fd ps []

/-! ### data that stand still -/
mutual
inductive Dt (K : PySem.W.Frag) (H : Hp) : V → PyData → Prop
  | non : Dt K H .non .none
  | bl (b : Bool) : Dt K H (.bl b) (.bool b)
  | int (i : Int) : Dt K H (.int i) (.int i)
  | str (x : Str) : Dt K H (.str x) (.str x)
  | tup {a : Addr} {xs : List V} {ds : List PyData} : Tup H a xs → DtAll K H xs ds → Dt K H (.ref a) (.tuple ds)
inductive DtAll (K : PySem.W.Frag) (H : Hp) : List V → List PyData → Prop
  | nil : DtAll K H [] []
  | cons {v : V} {vs : List V} {d : PyData} {ds : List PyData} : Dt K H v d → DtAll K H vs ds → DtAll K H (v :: vs) (d :: ds)
end
mutual
theorem Dt.dp {K : PySem.W.Frag} {H : Hp} : ∀ {v : V} {d : PyData}, Dt K H v d → Dp K H v d
  | _, _, .non => .non
  | _, _, .bl b => .bl b
  | _, _, .int i => .int i
  | _, _, .str x => .str x
  | _, _, .tup t a => .tup t.sq a.dp
theorem DtAll.dp {K : PySem.W.Frag} {H : Hp} : ∀ {vs : List V} {ds : List PyData}, DtAll K H vs ds → DpAll K H vs ds
  | _, _, .nil => .nil
  | _, _, .cons h r => .cons h.dp r.dp
end
mutual
theorem Dt.reads {X : Cx} {pins : List (Addr × Obj)} {σ : L2.St} {H : Hp} {s : Shared} {K : PySem.W.Frag} (I : Inv X pins σ H s) : ∀ {v : V} {d : PyData}, Dt K H v d → ∀ {u : Value}, RelV v u → Reads s.heap u d []
  | _, _, .non, u, r => by cases r; exact .none
  | _, _, .bl b, u, r => by cases r; exact .bool b
  | _, _, .int i, u, r => by obtain ⟨t, rfl⟩ := r; exact .int i t
  | _, _, .str x, u, r => by obtain ⟨t, rfl⟩ := r; exact .str x t
  | _, _, .tup (a := a) t q, u, r => by
    cases r
    obtain ⟨its, n, rv, z, ho⟩ := t.obj I
    exact .tuple ho rfl rfl (DtAll.reads I q rv)
theorem DtAll.reads {X : Cx} {pins : List (Addr × Obj)} {σ : L2.St} {H : Hp} {s : Shared} {K : PySem.W.Frag} (I : Inv X pins σ H s) : ∀ {vs : List V} {ds : List PyData}, DtAll K H vs ds → ∀ {us : List Value}, Vals vs us → ReadsAll s.heap us ds []
  | _, _, .nil, _, r => by cases r; exact .nil
  | _, _, .cons h q, _, r => by
    cases r with
    | cons r1 r2 => exact .cons (Dt.reads I h r1) (DtAll.reads I q r2)
end
mutual
/-- a change of what is no tuple leaves them -/
theorem Dt.keep {K : PySem.W.Frag} {S : List Addr} {H H' : Hp} (k : Keep S H H') (n : ∀ a xs, Tup H a xs → a ∉ S) : ∀ {v : V} {d : PyData}, Dt K H v d → Dt K H' v d
  | _, _, .non => .non
  | _, _, .bl b => .bl b
  | _, _, .int i => .int i
  | _, _, .str x => .str x
  | _, _, .tup t a => .tup (t.keep k (n _ _ t)) (DtAll.keep k n a)
theorem DtAll.keep {K : PySem.W.Frag} {S : List Addr} {H H' : Hp} (k : Keep S H H') (n : ∀ a xs, Tup H a xs → a ∉ S) : ∀ {vs : List V} {ds : List PyData}, DtAll K H vs ds → DtAll K H' vs ds
  | _, _, .nil => .nil
  | _, _, .cons h r => .cons (Dt.keep k n h) (DtAll.keep k n r)
end
def keyD : Key → PyData
  | .inl i => .int i
  | .inr x => .str x
theorem pairs_reads {X : Cx} {pins : List (Addr × Obj)} {σ : L2.St} {H : Hp} {s : Shared} {K : PySem.W.Frag} (I : Inv X pins σ H s) : ∀ {es : List DictEntry} {kvs : List (Key × V)} {us : List (Key × Value)} {ds : List PyData},
    PySem.Pairs (mixKind X.prog X.w) es us → KV kvs us → DtAll K H (kvs.map (·.2)) ds →
      ReadsAll s.heap (es.map (·.key)) (kvs.map fun p => keyD p.1) [] ∧ ReadsAll s.heap (es.map (·.val)) ds []
  | _, _, _, _, .nil, .nil, .nil => ⟨.nil, .nil⟩
  | e :: es, (k, v) :: kvs, (k', u) :: us, d :: ds, .cons h1 h2 hr, .cons ⟨q1, q2⟩ qr, .cons hd hds => by
    obtain ⟨r1, r2⟩ := pairs_reads I hr qr hds
    have q1' : k = k' := q1
    have q2' : RelV v u := q2
    have hv : e.val = u := h2
    have hk : keyIs k' e.key = true := h1
    subst q1'
    have rv : Reads s.heap e.val d [] := by
      rw [hv]
      exact hd.reads I q2'
    refine ⟨.cons (as := []) (bs := []) ?_ r1, .cons (as := []) (bs := []) rv r2⟩
    show Reads s.heap e.key (keyD k) []
    rcases keyIs_shape hk with ⟨i, t, rfl, e2⟩ | ⟨x, t, rfl, e2⟩
    · rw [e2]; exact .int i t
    · rw [e2]; exact .str x t

section
variable {X : Cx}
/-- what repr tells of a dict of such data -/
def uReprD (K : PySem.W.Frag) : List V → Hp → VK → Prop := fun xs H Q => ∃ (a : Addr) (kvs : List (Key × V)) (ds : List PyData), xs = [.ref a] ∧ H a = some (.dK kvs) ∧ DtAll K H (kvs.map (·.2)) ds ∧
  (PyData.dict ((kvs.map fun p => keyD p.1).zip ds)).showable = true ∧ (PyData.dict ((kvs.map fun p => keyD p.1).zip ds)).depth ≤ 100 ∧ (PyData.dict ((kvs.map fun p => keyD p.1).zip ds)).shown.length ≤ sizeLine ∧
  Q (.str (PyData.dict ((kvs.map fun p => keyD p.1).zip ds)).shown) H
theorem DtAll.len {K : PySem.W.Frag} {H : Hp} : ∀ {vs : List V} {ds : List PyData}, DtAll K H vs ds → vs.length = ds.length
  | _, _, .nil => rfl
  | _, _, .cons _ r => congrArg (· + 1) r.len
theorem call_uReprD (hr : Rm 1 X.A) : CallR X (.builtin "repr") (uReprD X.K) := by
  intro pins s σ H xs us Q I r h
  obtain ⟨a, kvs, ds, rfl, ha, hd, hs, hdep, hz, q⟩ := h
  obtain ⟨u, rfl, rx⟩ := vals1 r
  cases rx
  obtain ⟨z, hsy, ws, kv, o, es, ep, ho, ex, hdat, _, hp, _⟩ := I.hok a _ ha
  obtain ⟨r1, r2⟩ := pairs_reads I hp kv hd
  have hl := hd.len
  rw [List.length_map] at hl
  have e1 : ((kvs.map fun p => keyD p.1).zip ds).map (·.1) = kvs.map fun p => keyD p.1 := List.map_fst_zip (by rw [List.length_map]; omega)
  have e2 : ((kvs.map fun p => keyD p.1).zip ds).map (·.2) = ds := List.map_snd_zip (by rw [List.length_map]; omega)
  have rd : Reads s.heap (.ref a) (PyData.dict ((kvs.map fun p => keyD p.1).zip ds)) (a :: [] ++ []) := .dict ho ex.1 hdat (by rw [e1]; exact r1) (by rw [e2]; exact r2)
  have hu : X.A.units + ((PyData.dict ((kvs.map fun p => keyD p.1).zip ds)).depth + 1) < cLine := by
    have := hr.rm.un
    omega
  refine repr_of_reads' rd hs (fun _ hm => ?_) hr.gd hu (fun _ _ e => e) (fun h' u tk hk => ?_) hz
  · have e : sysModules = a := by simpa using hm
    rw [e] at hsy
    simp at hsy
  · exact ⟨.str _, H, I.kept (t' := tk) hk, ⟨_, rfl⟩, q⟩
def uRep (K : PySem.W.Frag) : List V → Hp → VK → Prop := fun xs H Q => uRepr K xs H Q ∨ uReprD K xs H Q
theorem call_uRep (hr : Rm 1 X.A) : CallR X (.builtin "repr") (uRep X.K) := (call_uRepr hr).or (call_uReprD hr)

def uLen (K : PySem.W.Frag) : List V → Hp → VK → Prop := fun xs H Q => ∃ x n, xs = [x] ∧ LenV K x H n ∧ Q (.int n) H
theorem call_uLen : CallR X (.builtin "len") (uLen X.K) := call_len
def uAbs : List V → Hp → VK → Prop := fun xs H Q => ∃ i, xs = [.int i] ∧ Q (.int (if i < 0 then -i else i)) H
theorem call_uAbs : CallR X (.builtin "abs") uAbs := call_abs
def uMax2 : List V → Hp → VK → Prop := fun xs H Q => ∃ i j, xs = [.int i, .int j] ∧ Q (.int (if j > i then j else i)) H
theorem call_uMax2 (hc : X.calm = true) : CallR X (.builtin "max") uMax2 := call_max2 hc
def uMin2 : List V → Hp → VK → Prop := fun xs H Q => ∃ i j, xs = [.int i, .int j] ∧ Q (.int (if j < i then j else i)) H
theorem call_uMin2 (hc : X.calm = true) : CallR X (.builtin "min") uMin2 := call_min2 hc
def uStr : List V → Hp → VK → Prop := fun xs H Q => ∃ i, xs = [.int i] ∧ i.natAbs.log2 < 1920 ∧ Q (.str (toString i)) H
theorem call_uStr : CallR X (.type "str") uStr := call_str_int
def uInt : List V → Hp → VK → Prop := fun xs H Q => (∃ i, xs = [.int i] ∧ Q (.int i) H) ∨ ∃ k, xs = [.bl k] ∧ Q (.int (if k then 1 else 0)) H
theorem call_uInt : CallR X (.type "int") uInt := call_int1
def rIsN : R2 := fun x y H Q => y = .non ∧ Q (.bl (decide (x = .non))) H
def rNotN : R2 := fun x y H Q => y = .non ∧ Q (.bl (!decide (x = .non))) H

/-! ### methods -/
def uAppend : V → List V → Hp → VK → Prop := fun x vs H Q => ∃ l xs y, x = .ref l ∧ vs = [y] ∧ H l = some (.lst xs) ∧ xs.length < sizeLine ∧ Ch H l (.lst (xs ++ [y])) (Q .non)
theorem mt_uAppend : MtM X "list.append" uAppend := by
  intro pins s σ H x vs v us Q I rx rv h
  obtain ⟨l, xs, y, e1, e2, h1, h2, q⟩ := h
  exact mt_append pins s σ H x vs v us Q I rx rv ⟨l, xs, y, e1, e2, h1, h2, q.at⟩
end
end Wg

/-! Wagon, part 5: how a reading goes on, construct by construct. -/
namespace Wg
open PySem PySem.Spec PyProof.Rows L2

section
variable {K : PySem.W.Frag} {H : Hp} {Q : VK} {i j : Int}
theorem e_rI {C : Int → Int → Prop} {g : Int → Int → V} : rI C g (.int i) (.int j) H Q ↔ C i j ∧ Q (g i j) H := by
  constructor
  · rintro ⟨a, b, e1, e2, c, q⟩
    cases e1; cases e2; exact ⟨c, q⟩
  · rintro ⟨c, q⟩; exact ⟨i, j, rfl, rfl, c, q⟩
theorem e_rI0 {g : Int → Int → V} : rI0 g (.int i) (.int j) H Q ↔ Q (g i j) H := by
  constructor
  · rintro ⟨a, b, e1, e2, q⟩
    cases e1; cases e2; exact q
  · intro q; exact ⟨i, j, rfl, rfl, q⟩
theorem e_rU {g : Int → V} : rU g (.int i) H Q ↔ Q (g i) H := by
  constructor
  · rintro ⟨a, e1, q⟩
    cases e1; exact q
  · intro q; exact ⟨i, rfl, q⟩
theorem e_addI : uAdd K (.int i) (.int j) H Q ↔ Q (.int (i + j)) H := by
  constructor
  · rintro (⟨a, b, e1, e2, q⟩ | ⟨a, b, e1, _⟩ | ⟨a, b, _, _, e1, _⟩ | ⟨a, b, _, _, e1, _⟩) <;> first | cases e1; cases e2; exact q | cases e1
  · intro q; exact .inl ⟨i, j, rfl, rfl, q⟩
theorem e_addS {x y : Str} : uAdd K (.str x) (.str y) H Q ↔ x.length + y.length ≤ sizeLine ∧ Q (.str (x ++ y)) H := by
  constructor
  · rintro (⟨a, b, e1, _⟩ | ⟨a, b, e1, e2, z, q⟩ | ⟨a, b, _, _, e1, _⟩ | ⟨a, b, _, _, e1, _⟩) <;> first | cases e1; cases e2; exact ⟨z, q⟩ | cases e1
  · rintro ⟨z, q⟩; exact .inr (.inl ⟨x, y, rfl, rfl, z, q⟩)
theorem e_mulI : uMul (.int i) (.int j) H Q ↔ CMul i j ∧ Q (.int (i * j)) H := by
  constructor
  · rintro (⟨a, b, e1, e2, c, q⟩ | ⟨a, b, _, e1, _⟩) <;> first | cases e1; cases e2; exact ⟨c, q⟩ | cases e1
  · rintro ⟨c, q⟩; exact .inl ⟨i, j, rfl, rfl, c, q⟩
theorem e_abs : uAbs [.int i] H Q ↔ Q (.int (if i < 0 then -i else i)) H := by
  constructor
  · rintro ⟨a, e1, q⟩
    cases e1; exact q
  · intro q; exact ⟨i, rfl, q⟩
theorem e_max2 : uMax2 [.int i, .int j] H Q ↔ Q (.int (if j > i then j else i)) H := by
  constructor
  · rintro ⟨a, b, e1, q⟩
    cases e1; exact q
  · intro q; exact ⟨i, j, rfl, q⟩
theorem e_min2 : uMin2 [.int i, .int j] H Q ↔ Q (.int (if j < i then j else i)) H := by
  constructor
  · rintro ⟨a, b, e1, q⟩
    cases e1; exact q
  · intro q; exact ⟨i, j, rfl, q⟩
theorem e_str : uStr [.int i] H Q ↔ i.natAbs.log2 < 1920 ∧ Q (.str (toString i)) H := by
  constructor
  · rintro ⟨a, e1, z, q⟩
    cases e1; exact ⟨z, q⟩
  · rintro ⟨z, q⟩; exact ⟨i, rfl, z, q⟩
theorem e_intI : uInt [.int i] H Q ↔ Q (.int i) H := by
  constructor
  · rintro (⟨a, e1, q⟩ | ⟨a, e1, q⟩) <;> cases e1; exact q
  · intro q; exact .inl ⟨i, rfl, q⟩
theorem e_intB {k : Bool} : uInt [.bl k] H Q ↔ Q (.int (if k then 1 else 0)) H := by
  constructor
  · rintro (⟨a, e1, q⟩ | ⟨a, e1, q⟩) <;> cases e1; exact q
  · intro q; exact .inr ⟨k, rfl, q⟩
theorem e_isN {x : V} : rIsN x .non H Q ↔ Q (.bl (decide (x = .non))) H := ⟨fun h => h.2, fun q => ⟨rfl, q⟩⟩
theorem e_notN {x : V} : rNotN x .non H Q ↔ Q (.bl (!decide (x = .non))) H := ⟨fun h => h.2, fun q => ⟨rfl, q⟩⟩
theorem e_truB {k k' : Bool} : TruV K (.bl k) H k' ↔ k' = k := Iff.rfl
theorem e_truI {k' : Bool} : TruV K (.int i) H k' ↔ k' = (i != 0) := Iff.rfl
/-- equality of scalars -/
theorem g_eq {x y : V} (h : scal x y = true) (q : Q (.bl (decide (x = y))) H) : uEq K false x y H Q := .inl ⟨h, by simpa using q⟩
theorem g_ne {x y : V} (h : scal x y = true) (q : Q (.bl (!decide (x = y))) H) : uEq K true x y H Q := .inl ⟨h, by simpa using q⟩
/-- an item of a list, of a tuple -/
theorem g_ixL {p : Addr} {xs : List V} {v : V} (h : H p = some (.lst xs)) (e : atI xs i = some v) (q : Q v H) : uIx K (.ref p) (.int i) H Q := .inl ⟨p, xs, i, v, rfl, rfl, .inl (lst_sq h), e, q⟩
theorem g_ixT {p : Addr} {xs : List V} {v : V} (h : Tup H p xs) (e : atI xs i = some v) (q : Q v H) : uIx K (.ref p) (.int i) H Q := .inl ⟨p, xs, i, v, rfl, rfl, .inr h.sq, e, q⟩
theorem g_ixQ {p : Addr} {xs : List V} {v : V} (h : SqL K H p xs) (e : atI xs i = some v) (q : Q v H) : uIx K (.ref p) (.int i) H Q := .inl ⟨p, xs, i, v, rfl, rfl, .inl h, e, q⟩
theorem g_ixS {z : Str} {c : Nat} (h : z.length ≤ sizeLine) (e : atI z.cps.toList i = some c) (q : Q (.str ⟨#[c]⟩) H) : uIx K (.str z) (.int i) H Q := .inr ⟨z, i, c, rfl, rfl, h, e, q⟩
/-- an item stored -/
theorem g_setL {p : Addr} {xs : List V} {v : V} {k : Nat} {R : Hp → Prop} (h : H p = some (.lst xs)) (e : ixN xs.length i = some k) (q : ∀ H', Keep [p] H H' → H' p = some (.lst (xs.set k v)) → R H') : uSetL (.ref p) (.int i) v H R :=
  ⟨p, xs, i, k, rfl, rfl, h, e, q⟩
theorem g_addL {a b : Addr} {xs ys : List V} (h1 : H a = some (.lst xs)) (h2 : H b = some (.lst ys)) (z : xs.length + ys.length ≤ sizeLine) (q : ∀ p H', H p = none → Keep [] H H' → H' p = some (.lst (xs ++ ys)) → Q (.ref p) H') : uAdd K (.ref a) (.ref b) H Q :=
  .inr (.inr (.inl ⟨a, b, xs, ys, rfl, rfl, h1, h2, z, q⟩))
theorem g_addT {a b : Addr} {xs ys : List V} (h1 : Tup H a xs) (h2 : Tup H b ys) (z : xs.length + ys.length ≤ sizeLine) (q : ∀ p H', Keep [] H H' → Tup H' p (xs ++ ys) → Q (.ref p) H') : uAdd K (.ref a) (.ref b) H Q := by
  refine .inr (.inr (.inr ⟨a, b, xs, ys, rfl, rfl, h1, h2, z, fun e => ?_, fun _ e => ?_, fun _ _ p H' _ k t => q p H' k t⟩))
  · subst e
    exact q b H (Keep.refl _ _) h2
  · subst e
    exact q a H (Keep.refl _ _) (by rw [List.append_nil]; exact h1)
theorem g_lenL {p : Addr} {xs : List V} (h : H p = some (.lst xs)) (q : Q (.int xs.length) H) : uLen K [.ref p] H Q := ⟨.ref p, xs.length, rfl, .inl ⟨xs, lst_sq h, rfl⟩, q⟩
theorem g_lenT {p : Addr} {xs : List V} (h : Tup H p xs) (q : Q (.int xs.length) H) : uLen K [.ref p] H Q := ⟨.ref p, xs.length, rfl, .inr ⟨xs, h.sq, rfl⟩, q⟩
theorem g_lenQ {p : Addr} {xs : List V} (h : SqL K H p xs) (q : Q (.int xs.length) H) : uLen K [.ref p] H Q := ⟨.ref p, xs.length, rfl, .inl ⟨xs, h, rfl⟩, q⟩
theorem g_lenS {z : Str} (h : z.length ≤ sizeLine) (q : Q (.int z.length) H) : uLen K [.str z] H Q := ⟨.str z, z.length, rfl, ⟨h, rfl⟩, q⟩
theorem g_repr {v : V} {d : PyData} (h : Dp K H v d) (h1 : d.showable = true) (h2 : d.depth ≤ 100) (h3 : d.shown.length ≤ sizeLine) (q : Q (.str d.shown) H) : uRep K [v] H Q := .inl ⟨v, d, rfl, h, h1, h2, h3, q⟩
theorem g_append {l : Addr} {xs : List V} {y : V} (h : H l = some (.lst xs)) (z : xs.length < sizeLine) (q : ∀ H', Keep [l] H H' → H' l = some (.lst (xs ++ [y])) → Q .non H') : uAppend (.ref l) [y] H Q := ⟨l, xs, y, rfl, rfl, h, z, q⟩
theorem g_listL {p : Addr} {ys : List V} (h : H p = some (.lst ys)) (q : ∀ l H', H l = none → Keep [] H H' → H' l = some (.lst ys) → Q (.ref l) H') : uList K [.ref p] H Q := ⟨p, ys, rfl, .inl (lst_sq h), q⟩
theorem g_listT {p : Addr} {ys : List V} (h : Tup H p ys) (q : ∀ l H', H l = none → Keep [] H H' → H' l = some (.lst ys) → Q (.ref l) H') : uList K [.ref p] H Q := ⟨p, ys, rfl, .inr h.sq, q⟩
theorem g_tupleL {p : Addr} {ys : List V} (h : H p = some (.lst ys)) (q : ∀ l H', H l = none → Keep [] H H' → Tup H' l ys → Q (.ref l) H') : uTuple K [.ref p] H Q := ⟨p, ys, rfl, .inl ⟨lst_sq h, q⟩⟩
theorem g_slL {p : Addr} {xs : List V} {lo hi : Option Int} (h : SqL K H p xs) (q : ∀ l H', H l = none → Keep [] H H' → H' l = some (.lst (cutV xs lo hi)) → Q (.ref l) H') : uSl K (.ref p) lo hi H Q := .inl ⟨p, xs, rfl, h, q⟩
theorem g_slS {z : Str} {lo hi : Option Int} (h : z.length ≤ sizeLine) (q : Q (.str (cutS z lo hi)) H) : uSl K (.str z) lo hi H Q := .inr (.inl ⟨z, rfl, h, q⟩)
theorem cut_all {xs : List V} {lo hi : Option Int} (h : HT.sIx xs.length 0 lo = 0 ∧ HT.sIx xs.length xs.length hi = xs.length) : cutV xs lo hi = xs := by
  unfold cutV
  rw [h.1, h.2]
  exact List.take_length
theorem g_slT {p : Addr} {xs : List V} {lo hi : Option Int} (h : Tup H p xs) (q : ∀ l H', Keep [] H H' → Tup H' l (cutV xs lo hi) → Q (.ref l) H') : uSl K (.ref p) lo hi H Q := by
  refine .inr (.inr ⟨p, xs, rfl, h, fun e => ?_, fun _ l H' _ k t => q l H' k t⟩)
  exact q p H (Keep.refl _ _) (by rw [cut_all e]; exact h)
/-- a slot's value by its place -/
theorem at_lit {α : Type} {xs : List α} {v : α} {i : Int} (j : Nat) (e : i = (j : Int)) (h : xs[j]? = some v) : atI xs i = some v := by
  subst e
  exact atI_nat h
end

/-! ### what isinstance tells -/
section
variable {K : PySem.W.Frag} {H : Hp} {Q : VK}
theorem ty_tup {a : Addr} {xs : List V} (h : Tup H a xs) : TyX K H (.ref a) (.type "tuple") := let ⟨_, e, _⟩ := h; .fTuple e
theorem g_isi {x : V} {n T : String} {k : Bool} (h : TyX K H x (.type n)) (e : kitB n T = some k) (q : Q (.bl k) H) : rIsi K [x, .ty T] H Q := ⟨x, .ty T, _, _, k, rfl, .ty T, h, kit_ty e, q⟩
end
theorem kit_int_int : kitB "int" "int" = some true := by decide +kernel
theorem kit_bool_int : kitB "bool" "int" = some true := by decide +kernel
theorem kit_str_int : kitB "str" "int" = some false := by decide +kernel
theorem kit_none_int : kitB "NoneType" "int" = some false := by decide +kernel
theorem kit_list_int : kitB "list" "int" = some false := by decide +kernel
theorem kit_tuple_int : kitB "tuple" "int" = some false := by decide +kernel
theorem kit_dict_int : kitB "dict" "int" = some false := by decide +kernel
theorem kit_int_bool : kitB "int" "bool" = some false := by decide +kernel
theorem kit_bool_bool : kitB "bool" "bool" = some true := by decide +kernel
theorem kit_str_bool : kitB "str" "bool" = some false := by decide +kernel
theorem kit_none_bool : kitB "NoneType" "bool" = some false := by decide +kernel
theorem kit_list_bool : kitB "list" "bool" = some false := by decide +kernel
theorem kit_tuple_bool : kitB "tuple" "bool" = some false := by decide +kernel
theorem kit_dict_bool : kitB "dict" "bool" = some false := by decide +kernel
end Wg

/-! Wagon, part 6: how long what repr tells is; things as a law's lists hold them. -/
namespace Wg
open PySem PySem.Spec PyProof.Rows L2

/-! ### how long -/
mutual
def cost : PyData → Nat
  | .none => 4
  | .bool _ => 5
  | .int _ => 1921
  | .str x => 10 * x.length + 2
  | .list xs => costs xs + 2
  | .tuple xs => costs xs + 3
  | .dict kvs => costKv kvs + 2
def costs : List PyData → Nat
  | [] => 0
  | x :: xs => cost x + 2 + costs xs
def costKv : List (PyData × PyData) → Nat
  | [] => 0
  | (k, v) :: r => cost k + 2 + cost v + 2 + costKv r
end
/-- texts of moderate signs, whole numbers that str can write -/
def signsOk (x : Str) : Prop := ∀ c ∈ x.cps.toList, c < 16 ^ 8
mutual
def fine : PyData → Prop
  | .none => True
  | .bool _ => True
  | .int i => i.natAbs.log2 < 1920
  | .str x => signsOk x
  | .list xs => fines xs
  | .tuple xs => fines xs
  | .dict kvs => fineKv kvs
def fines : List PyData → Prop
  | [] => True
  | x :: xs => fine x ∧ fines xs
def fineKv : List (PyData × PyData) → Prop
  | [] => True
  | (k, v) :: r => fine k ∧ fine v ∧ fineKv r
end
mutual
theorem fine_show : ∀ {d : PyData}, fine d → d.showable = true
  | .none, _ => rfl
  | .bool _, _ => rfl
  | .int i, h => decide_eq_true h
  | .str _, _ => rfl
  | .list xs, h => by simp only [PyData.showable]; exact fines_show h
  | .tuple xs, h => by simp only [PyData.showable]; exact fines_show h
  | .dict kvs, h => by simp only [PyData.showable]; exact fineKv_show h
theorem fines_show : ∀ {ds : List PyData}, fines ds → PyData.showableAll ds = true
  | [], _ => rfl
  | d :: ds, h => by simp only [PyData.showableAll, Bool.and_eq_true]; exact ⟨fine_show h.1, fines_show h.2⟩
theorem fineKv_show : ∀ {ds : List (PyData × PyData)}, fineKv ds → PyData.showableKv ds = true
  | [], _ => rfl
  | (k, v) :: ds, h => by simp only [PyData.showableKv, Bool.and_eq_true]; exact ⟨⟨fine_show h.1, fine_show h.2.1⟩, fineKv_show h.2.2⟩
end
theorem list_text (ts : List Str) : (listText ts).length ≤ piled ts + 2 := by
  have key : ∀ (ts : List Str) (k : Nat) (acc : Str), (textFrom k acc ts).length ≤ acc.length + piled ts := by
    intro ts
    induction ts with
    | nil =>
      intro k acc
      simp [textFrom, piled]
    | cons t r ih =>
      intro k acc
      have q := ih (k + 1) (acc ++ (if k > 0 then ", " else "" : String) ++ t)
      have e2 : (((if k > 0 then ", " else "" : String) : Str)).length ≤ 2 := by split <;> decide +kernel
      rw [strLen_append, strLen_append] at q
      show (textFrom (k + 1) (acc ++ (if k > 0 then ", " else "" : String) ++ t) r).length ≤ _
      rw [piled_cons]
      omega
  unfold listText
  have e1 : (("[" : String) : Str).length = 1 := rfl
  have e2 : (("]" : String) : Str).length = 1 := rfl
  have q := key ts 0 "["
  rw [strLen_append, e2]
  rw [e1] at q
  omega
theorem tuple_text (ts : List Str) : (tupleText ts).length ≤ piled ts + 3 := by
  unfold tupleText
  have e1 : (("(" : String) : Str).length = 1 := rfl
  have e3 : (((if ts.length == 1 then ",)" else ")" : String) : Str)).length ≤ 2 := by split <;> decide +kernel
  rw [strLen_append, strLen_append, e1]
  by_cases h : ts = []
  · subst h
    decide +kernel
  · have := join_length_add ts h
    omega
theorem dict_text (ts : List Str) : (dictText ts).length ≤ piled ts + 2 := by
  unfold dictText
  have e1 : (("{" : String) : Str).length = 1 := rfl
  have e3 : (("}" : String) : Str).length = 1 := rfl
  rw [strLen_append, strLen_append, e1, e3]
  by_cases h : ts = []
  · subst h
    decide +kernel
  · have := join_length_add ts h
    omega
mutual
theorem shown_le : ∀ {d : PyData}, fine d → d.shown.length ≤ cost d
  | .none, _ => by decide +kernel
  | .bool b, _ => by cases b <;> decide +kernel
  | .int i, h => by
    simp only [PyData.shown, cost]
    rw [PySem.ofString_length]
    exact int_text_length_le (by decide) h
  | .str x, h => by
    simp only [PyData.shown, cost]
    exact StrLaws.reprText_len x h
  | .list xs, h => by
    simp only [PyData.shown, cost]
    have := list_text (PyData.shownAll xs)
    have := shownAll_le h
    omega
  | .tuple xs, h => by
    simp only [PyData.shown, cost]
    have := tuple_text (PyData.shownAll xs)
    have := shownAll_le h
    omega
  | .dict kvs, h => by
    simp only [PyData.shown, cost]
    have := dict_text (PyData.shownKv kvs)
    have := shownKv_le h
    omega
theorem shownAll_le : ∀ {ds : List PyData}, fines ds → piled (PyData.shownAll ds) ≤ costs ds
  | [], _ => Nat.le_refl _
  | d :: ds, h => by
    have h1 := shown_le h.1
    have h2 := shownAll_le h.2
    simp only [PyData.shownAll, costs, piled_cons]
    omega
theorem shownKv_le : ∀ {ds : List (PyData × PyData)}, fineKv ds → piled (PyData.shownKv ds) ≤ costKv ds
  | [], _ => Nat.le_refl _
  | (k, v) :: ds, h => by
    have h1 := shown_le h.1
    have h2 := shown_le h.2.1
    have h3 := shownKv_le h.2.2
    have e : ((": " : String) : Str).length = 2 := rfl
    simp only [PyData.shownKv, costKv, piled_cons, strLen_append, e]
    omega
end
mutual
theorem Dp.keep {K : PySem.W.Frag} {H H' : Hp} (k : Keep [] H H') : ∀ {v : V} {d : PyData}, Dp K H v d → Dp K H' v d
  | _, _, .non => .non
  | _, _, .bl b => .bl b
  | _, _, .int i => .int i
  | _, _, .str x => .str x
  | _, _, .lst h q => .lst (sq_keep h k nin0) (DpAll.keep k q)
  | _, _, .tup h q => .tup (by
      rcases h with (h | ⟨o, h⟩) | h
      · exact .inl (.inl (k _ _ nin0 h))
      · exact .inl (.inr ⟨o, k _ _ nin0 h⟩)
      · exact .inr h) (DpAll.keep k q)
theorem DpAll.keep {K : PySem.W.Frag} {H H' : Hp} (k : Keep [] H H') : ∀ {vs : List V} {ds : List PyData}, DpAll K H vs ds → DpAll K H' vs ds
  | _, _, .nil => .nil
  | _, _, .cons h q => .cons (Dp.keep k h) (DpAll.keep k q)
end
/-- a thing that repr tells -/
inductive Th (K : PySem.W.Frag) (H : Hp) : V → PyData → Prop
  | dp {v : V} {d : PyData} : Dp K H v d → fine d → cost d ≤ 10000000 → d.depth ≤ 100 → Th K H v d
  | dic {a : Addr} {kvs : List (Key × V)} {ds : List PyData} : H a = some (.dK kvs) → DtAll K H (kvs.map (·.2)) ds → fine (.dict ((kvs.map fun p => keyD p.1).zip ds)) → cost (.dict ((kvs.map fun p => keyD p.1).zip ds)) ≤ 10000000 →
      (PyData.dict ((kvs.map fun p => keyD p.1).zip ds)).depth ≤ 100 → Th K H (.ref a) (.dict ((kvs.map fun p => keyD p.1).zip ds))
theorem line_big {n : Nat} (h : n ≤ 10000000) : n ≤ sizeLine := by
  rw [sizeLine_eq]
  omega
theorem g_rep {K : PySem.W.Frag} {H : Hp} {v : V} {d : PyData} {Q : VK} (h : Th K H v d) (q : Q (.str d.shown) H) : uRep K [v] H Q := by
  cases h with
  | dp h1 h2 h3 h4 => exact .inl ⟨v, d, rfl, h1, fine_show h2, h4, Nat.le_trans (shown_le h2) (line_big h3), q⟩
  | dic h1 h2 h3 h4 h5 => exact .inr ⟨_, _, _, rfl, h1, h2, fine_show h3, h5, Nat.le_trans (shown_le h3) (line_big h4), q⟩
theorem Th.keep {K : PySem.W.Frag} {H H' : Hp} (k : Keep [] H H') {v : V} {d : PyData} (h : Th K H v d) : Th K H' v d := by
  cases h with
  | dp h1 h2 h3 h4 => exact .dp (Dp.keep k h1) h2 h3 h4
  | dic h1 h2 h3 h4 h5 => exact .dic (k _ _ nin0 h1) (h2.keep k fun _ _ _ => nin0) h3 h4 h5
end Wg

/-! Wagon, part 7: loops and comprehensions by what holds ahead of each turn. -/
namespace Wg
open PySem PySem.Spec PyProof.Rows L2

/-- n turns, the i-th with the item it i -/
def Loop (n : Nat) (it : Nat → V) (g : TG) (tb : TS) (D : Ends) (σ : L2.St) (H : Hp) : Prop :=
  ∃ Pv : Nat → L2.St → Hp → Prop, Pv 0 σ H ∧ (∀ i σ H, i < n → Pv i σ H → g (it i) σ H fun σ2 H2 => tb { D with nx := Pv (i + 1), ct := Pv (i + 1), bk := D.nx } σ2 H2) ∧ ∀ σ H, Pv n σ H → D.nx σ H
/-- the same, told of the argument's end -/
theorem L_range1 {g : TG} {tb : TS} {D : Ends} {σ : L2.St} {H1 : Hp} {j : Int} (b1 : -(2 ^ 62) ≤ j) (b2 : j < 2 ^ 62) (h : Loop j.toNat (fun i => .int (i : Nat)) g tb D σ H1) :
    ∃ k : Int, [V.int j] = [V.int k] ∧ -(2 ^ 62) ≤ k ∧ k < 2 ^ 62 ∧ ∃ W : Nat → Nat → L2.St → Hp → Prop, (∃ m, W 0 m σ H1) ∧ ∀ i m σ H, W i m σ H →
      ((Itr 0 k.toNat).stop i H ∧ D.nx σ H) ∨ ((Itr 0 k.toNat).go i H ∧ ∃ N : L2.St → Hp → Prop, (∀ σ' H', N σ' H' → ∃ m', m' < m ∧ W (i + 1) m' σ' H') ∧ ∀ x H', (Itr 0 k.toNat).yld i H x H' → g x σ H' fun σ2 H2 => tb { D with nx := N, ct := N, bk := D.nx } σ2 H2) := by
  obtain ⟨Pv, p0, ps, pd⟩ := h
  refine ⟨j, rfl, b1, b2, for_range (lo := 0) (n := j.toNat) Pv p0 (fun i σ H hi p => ?_) pd⟩
  have q := ps i σ H hi p
  rw [Int.zero_add]
  exact q
/-- what a for over range asks, behind its argument -/
def FR1 (g : TG) (tb : TS) (D : Ends) (σ : L2.St) (vs : List V) (H1 : Hp) : Prop := ∃ j : Int, vs = [.int j] ∧ -(2 ^ 62) ≤ j ∧ j < 2 ^ 62 ∧ ∃ W : Nat → Nat → L2.St → Hp → Prop, (∃ m, W 0 m σ H1) ∧ ∀ i m σ H, W i m σ H →
  ((Itr 0 j.toNat).stop i H ∧ D.nx σ H) ∨ ((Itr 0 j.toNat).go i H ∧ ∃ N : L2.St → Hp → Prop, (∀ σ' H', N σ' H' → ∃ m', m' < m ∧ W (i + 1) m' σ' H') ∧ ∀ x H', (Itr 0 j.toNat).yld i H x H' → g x σ H' fun σ2 H2 => tb { D with nx := N, ct := N, bk := D.nx } σ2 H2)
theorem e_for1 {ta : TA} {g : TG} {tb : TS} {D : Ends} {σ : L2.St} {H : Hp} : tFor (iRng1 ta) g tb D σ H ↔ ta σ H (FR1 g tb D σ) := Iff.rfl
theorem g_FR1 {g : TG} {tb : TS} {D : Ends} {σ : L2.St} {H1 : Hp} {j : Int} (b1 : -(2 ^ 62) ≤ j) (b2 : j < 2 ^ 62) (h : Loop j.toNat (fun i => .int (i : Nat)) g tb D σ H1) : FR1 g tb D σ [.int j] H1 := L_range1 b1 b2 h
def FR2 (g : TG) (tb : TS) (D : Ends) (σ : L2.St) (vs : List V) (H1 : Hp) : Prop := ∃ i0 j : Int, vs = [.int i0, .int j] ∧ (-(2 ^ 62) ≤ i0 ∧ i0 < 2 ^ 62 ∧ -(2 ^ 62) ≤ j ∧ j < 2 ^ 62) ∧ ∃ W : Nat → Nat → L2.St → Hp → Prop, (∃ m, W 0 m σ H1) ∧ ∀ i m σ H, W i m σ H →
  ((Itr i0 (j - i0).toNat).stop i H ∧ D.nx σ H) ∨ ((Itr i0 (j - i0).toNat).go i H ∧ ∃ N : L2.St → Hp → Prop, (∀ σ' H', N σ' H' → ∃ m', m' < m ∧ W (i + 1) m' σ' H') ∧ ∀ x H', (Itr i0 (j - i0).toNat).yld i H x H' → g x σ H' fun σ2 H2 => tb { D with nx := N, ct := N, bk := D.nx } σ2 H2)
theorem e_for2 {ta : TA} {g : TG} {tb : TS} {D : Ends} {σ : L2.St} {H : Hp} : tFor (iRng2 ta) g tb D σ H ↔ ta σ H (FR2 g tb D σ) := Iff.rfl
/-- a for over a list, a tuple, a text, behind it -/
def FU (K : PySem.W.Frag) (g : TG) (tb : TS) (D : Ends) (σ : L2.St) (x : V) (H1 : Hp) : Prop := iU K (tC x) σ H1 fun J H1 => ∃ W : Nat → Nat → L2.St → Hp → Prop, (∃ m, W 0 m σ H1) ∧ ∀ i m σ H, W i m σ H →
  (J.stop i H ∧ D.nx σ H) ∨ (J.go i H ∧ ∃ N : L2.St → Hp → Prop, (∀ σ' H', N σ' H' → ∃ m', m' < m ∧ W (i + 1) m' σ' H') ∧ ∀ x H', J.yld i H x H' → g x σ H' fun σ2 H2 => tb { D with nx := N, ct := N, bk := D.nx } σ2 H2)
theorem e_forU {K : PySem.W.Frag} {tl : TE} {g : TG} {tb : TS} {D : Ends} {σ : L2.St} {H : Hp} : tFor (iU K tl) g tb D σ H ↔ tl σ H (FU K g tb D σ) := Iff.rfl
/-- over a list that stands still -/
theorem g_FL {K : PySem.W.Frag} {g : TG} {tb : TS} {D : Ends} {σ : L2.St} {H1 : Hp} {a : Addr} {xs : List V} (Pv : Nat → L2.St → Hp → Prop) (h : SqL K H1 a xs) (h0 : Pv 0 σ H1) (hl : ∀ i σ H, i ≤ xs.length → Pv i σ H → SqL K H a xs)
    (hs : ∀ i x σ H, xs[i]? = some x → Pv i σ H → g x σ H fun σ2 H2 => tb { D with nx := Pv (i + 1), ct := Pv (i + 1), bk := D.nx } σ2 H2) (hd : ∀ σ H, Pv xs.length σ H → D.nx σ H) : FU K g tb D σ (.ref a) H1 :=
  .inl ⟨a, xs, rfl, h, for_list Pv h0 hl hs hd⟩
theorem g_FT {K : PySem.W.Frag} {g : TG} {tb : TS} {D : Ends} {σ : L2.St} {H1 : Hp} {a : Addr} {xs : List V} (Pv : Nat → L2.St → Hp → Prop) (h : Tup H1 a xs) (h0 : Pv 0 σ H1) (hl : ∀ i σ H, i ≤ xs.length → Pv i σ H → Tup H a xs)
    (hs : ∀ i x σ H, xs[i]? = some x → Pv i σ H → g x σ H fun σ2 H2 => tb { D with nx := Pv (i + 1), ct := Pv (i + 1), bk := D.nx } σ2 H2) (hd : ∀ σ H, Pv xs.length σ H → D.nx σ H) : FU K g tb D σ (.ref a) H1 :=
  .inr (.inl ⟨a, xs, rfl, h.sq, for_tup Pv h0 (fun i σ H l p => (hl i σ H l p).sq) hs hd⟩)
/-- the script: locked, or an object of the module -/
def Scr (K : PySem.W.Frag) (H : Hp) (a : Addr) (xs : List V) : Prop :=
  (∃ o, H a = some (.frz o (.lst xs))) ∨ ∃ (o : Obj) (its : Array Value) (n : Nat), K.lookup a = some o ∧ o.cls = .type "list" ∧ o.dict = none ∧ o.data = .seq its n ∧ its.size ≤ sizeLine ∧ Vals xs its.toList
theorem Scr.sq {K : PySem.W.Frag} {H : Hp} {a : Addr} {xs : List V} (h : Scr K H a xs) : SqL K H a xs := h.elim (fun h => .inl (.inr h)) .inr
theorem Scr.keep {K : PySem.W.Frag} {S : List Addr} {H H' : Hp} {a : Addr} {xs : List V} (h : Scr K H a xs) (k : Keep S H H') (n : ∀ o, H a = some o → a ∉ S) : Scr K H' a xs :=
  h.elim (fun ⟨o, e⟩ => .inl ⟨o, k _ _ (n _ e) e⟩) .inr
theorem Scr.keep0 {K : PySem.W.Frag} {H H' : Hp} {a : Addr} {xs : List V} (h : Scr K H a xs) (k : Keep [] H H') : Scr K H' a xs := h.keep k fun _ _ => nin0
/-- a new object comes and is changed -/
theorem Scr.past {K : PySem.W.Frag} {H H1 H2 : Hp} {a p : Addr} {xs : List V} (h : Scr K H a xs) (n : H p = none) (k1 : Keep [] H H1) (k2 : Keep [p] H1 H2) : Scr K H2 a xs :=
  h.elim (fun ⟨o, e⟩ => .inl ⟨o, k2 _ _ (nin1 (ne_of_none e n)) (k1 _ _ nin0 e)⟩) .inr
theorem Scr.of {K : PySem.W.Frag} {H : Hp} {a : Addr} {xs : List V} (o : Only H) (h : SqL K H a xs) : Scr K H a xs := by
  rcases h with (h | h) | h
  · rcases o a with z | ⟨ob, ys, z⟩
    · exact nomatch z.symm.trans h
    · exact nomatch z.symm.trans h
  · exact .inl h
  · exact .inr h
theorem e_ten6 : (10 : Int) ^ (6 : Int).toNat = 1000000 := by decide
theorem e_ten18 : (10 : Int) ^ (18 : Int).toNat = 1000000000000000000 := by decide
theorem e_ten60 : (10 : Int) ^ (60 : Int).toNat = 10 ^ 60 := rfl
theorem len1 {α : Type} {a : α} : [a].length ≤ sizeLine := by show 1 ≤ sizeLine; decide
theorem len_le {n : Nat} (h : n ≤ 1000000) : n ≤ sizeLine := by
  rw [sizeLine_eq]
  omega
theorem len_lt {n : Nat} (h : n ≤ 1000000) : n < sizeLine := by
  rw [sizeLine_eq]
  omega
end Wg

/-! Wagon, part 8: comprehensions, places of texts in tuples, join, split. -/
namespace Wg
open PySem PySem.Spec PyProof.Rows L2

theorem Keep.past {S : List Addr} {H H1 H2 : Hp} {d : Addr} (k1 : Keep S H H1) (k2 : Keep [d] H1 H2) (n : H d = none) : Keep S H H2 := fun b o hb e =>
  k2 b o (nin1 (ne_of_none e n)) (k1 b o hb e)

/-! ### comprehensions -/
/-- n turns: acc is what is made so far, D the new list; R: what is wanted of an element, R0: of a turn without one -/
def CLoop (S : List Addr) (n : Nat) (it : Nat → V) (g : TG) (tt : TT) (te : TE) (vs : List Nat) (σ : L2.St) (H1 : Hp) (Q : VK) : Prop :=
  ∃ P : Nat → Hp → List V → Prop, (∀ D H2, H1 D = none → Keep [] H1 H2 → P 0 H2 []) ∧
    (∀ D i H acc (R : VK) (R0 : Hp → Prop), H1 D = none → i < n → Keep S H1 H → H D = some (.lst acc) → P i H acc →
      (∀ y H4, Keep S H H4 → acc.length < sizeLine → (∀ H5, Keep [D] H4 H5 → P (i + 1) H5 (acc ++ [y])) → R y H4) → (∀ H3, Keep S H H3 → P (i + 1) H3 acc → R0 H3) →
      g (it i) (wipe σ vs) H fun σ2 H2 => wipe σ2 vs = wipe σ vs ∧ tt σ2 H2 fun b H3 => if b = true then te σ2 H3 R else R0 H3) ∧
    ∀ D H acc, H1 D = none → Keep S H1 H → H D = some (.lst acc) → P n H acc → Q (.ref D) H
/-- what a comprehension asks behind its source's value -/
def CB (J : It) (g : TG) (tt : TT) (te : TE) (vs : List Nat) (σ : L2.St) (Q : VK) (H1 : Hp) : Prop := ∀ D, H1 D = none → ∃ W : Nat → Nat → Hp → Prop, (∃ m, W 0 m (upd H1 D (.lst []))) ∧ ∀ i m H, W i m H →
  (J.stop i H ∧ Q (.ref D) H) ∨ (J.go i H ∧ ∃ Nx : Hp → Prop, (∀ H', Nx H' → ∃ m', m' < m ∧ W (i + 1) m' H') ∧ ∀ x H', J.yld i H x H' → g x (wipe σ vs) H' fun σ2 H2 => wipe σ2 vs = wipe σ vs ∧ tt σ2 H2 fun b H3 =>
    if b = true then te σ2 H3 fun y H4 => ∃ acc, H4 D = some (.lst acc) ∧ acc.length < sizeLine ∧ Nx (upd H4 D (.lst (acc ++ [y]))) else Nx H3)
def CU (K : PySem.W.Frag) (g : TG) (tt : TT) (te : TE) (vs : List Nat) (σ : L2.St) (Q : VK) (x : V) (H1 : Hp) : Prop := iU K (tC x) σ H1 fun J H1 => CB J g tt te vs σ Q H1
theorem e_lcU {K : PySem.W.Frag} {tl : TE} {g : TG} {tt : TT} {te : TE} {vs : List Nat} {σ : L2.St} {H : Hp} {Q : VK} : tLc (iU K tl) g tt te vs σ H Q ↔ tl σ H (CU K g tt te vs σ Q) := Iff.rfl
def CR1 (g : TG) (tt : TT) (te : TE) (vs : List Nat) (σ : L2.St) (Q : VK) (xs : List V) (H1 : Hp) : Prop := ∃ j : Int, xs = [.int j] ∧ -(2 ^ 62) ≤ j ∧ j < 2 ^ 62 ∧ CB (Itr 0 j.toNat) g tt te vs σ Q H1
theorem e_lcR1 {ta : TA} {g : TG} {tt : TT} {te : TE} {vs : List Nat} {σ : L2.St} {H : Hp} {Q : VK} : tLc (iRng1 ta) g tt te vs σ H Q ↔ ta σ H (CR1 g tt te vs σ Q) := Iff.rfl
/-- from CLoop: J yields it i at turn i and stops at n, as long as what was there ahead is kept -/
theorem cb_of {S : List Addr} {n : Nat} {it : Nat → V} {J : It} {g : TG} {tt : TT} {te : TE} {vs : List Nat} {σ : L2.St} {H1 : Hp} {Q : VK} (hS : ∀ b ∈ S, ∃ o, H1 b = some o)
    (hgo : ∀ i H, i < n → Keep S H1 H → J.go i H) (hy : ∀ i H x H', i < n → Keep S H1 H → J.yld i H x H' → x = it i ∧ H' = H) (hst : ∀ H, Keep S H1 H → J.stop n H)
    (h : CLoop S n it g tt te vs σ H1 Q) : CB J g tt te vs σ Q H1 := by
  intro D hD
  obtain ⟨P, p0, ps, pd⟩ := h
  have nD : D ∉ S := fun z => by
    obtain ⟨o, e⟩ := hS D z
    exact nomatch hD.symm.trans e
  refine ⟨fun i m H => m = n - i ∧ i ≤ n ∧ Keep S H1 H ∧ ∃ acc, H D = some (.lst acc) ∧ P i H acc, ⟨n, by omega, by omega, (Keep.new hD).all, [], upd_same, p0 D _ hD (Keep.new hD)⟩, ?_⟩
  rintro i m H ⟨rfl, hi, k, acc, eD, p⟩
  by_cases hlt : i < n
  · refine .inr ⟨hgo i H hlt k, fun H' => i + 1 ≤ n ∧ Keep S H1 H' ∧ ∃ acc, H' D = some (.lst acc) ∧ P (i + 1) H' acc, fun H' q => ⟨n - (i + 1), by omega, rfl, q⟩, fun x H' y => ?_⟩
    obtain ⟨ex, eh⟩ := hy i H x H' hlt k y
    rw [ex, eh]
    exact ps D i H acc _ _ hD hlt k eD p (fun y H4 k4 z q => ⟨acc, k4 _ _ nD eD, z, hlt, (k.trans k4).past Keep.set hD, _, upd_same, q _ Keep.set⟩) fun H3 k3 q => ⟨hlt, k.trans k3, acc, k3 _ _ nD eD, q⟩
  · have e : i = n := by omega
    subst e
    exact .inl ⟨hst H k, pd D H acc hD k eD p⟩
theorem g_CR1 {S : List Addr} {g : TG} {tt : TT} {te : TE} {vs : List Nat} {σ : L2.St} {H1 : Hp} {Q : VK} {j : Int} (hS : ∀ b ∈ S, ∃ o, H1 b = some o) (b1 : -(2 ^ 62) ≤ j) (b2 : j < 2 ^ 62)
    (h : CLoop S j.toNat (fun i => .int (i : Nat)) g tt te vs σ H1 Q) : CR1 g tt te vs σ Q [.int j] H1 := by
  refine ⟨j, rfl, b1, b2, cb_of hS (fun i H hi _ => hi) (fun i H x H' hi _ y => ?_) (fun H _ => Nat.le_refl _) h⟩
  obtain ⟨e1, e2⟩ := y
  exact ⟨by rw [e2, Int.zero_add], e1⟩
theorem g_CL {S : List Addr} {K : PySem.W.Frag} {g : TG} {tt : TT} {te : TE} {vs : List Nat} {σ : L2.St} {H1 : Hp} {Q : VK} {a : Addr} {xs : List V} (hS : ∀ b ∈ S, ∃ o, H1 b = some o) (hx : H1 a = some (.lst xs)) (na : a ∉ S)
    (h : CLoop S xs.length (fun i => xs.getD i .non) g tt te vs σ H1 Q) : CU K g tt te vs σ Q (.ref a) H1 := by
  refine .inl ⟨a, xs, rfl, lst_sq hx, cb_of hS (fun i H hi k => ⟨xs, xs[i], lst_sq (k _ _ na hx), List.getElem?_eq_getElem hi⟩) (fun i H x H' hi k y => ?_) (fun H k => ⟨xs, lst_sq (k _ _ na hx), Nat.le_refl _⟩) h⟩
  obtain ⟨e1, e2⟩ := y
  have := e2 xs (lst_sq (k _ _ na hx))
  exact ⟨by rw [List.getD_eq_getElem?_getD, this]; rfl, e1⟩
theorem g_CT {S : List Addr} {K : PySem.W.Frag} {g : TG} {tt : TT} {te : TE} {vs : List Nat} {σ : L2.St} {H1 : Hp} {Q : VK} {a : Addr} {xs : List V} (hS : ∀ b ∈ S, ∃ o, H1 b = some o) (hx : Tup H1 a xs) (na : a ∉ S)
    (h : CLoop S xs.length (fun i => xs.getD i .non) g tt te vs σ H1 Q) : CU K g tt te vs σ Q (.ref a) H1 := by
  refine .inr (.inl ⟨a, xs, rfl, hx.sq, cb_of hS (fun i H hi k => ⟨xs, xs[i], (hx.keep k na).sq, List.getElem?_eq_getElem hi⟩) (fun i H x H' hi k y => ?_) (fun H k => ⟨xs, (hx.keep k na).sq, Nat.le_refl _⟩) h⟩)
  obtain ⟨e1, e2⟩ := y
  have := e2 xs (hx.keep k na).sq
  exact ⟨by rw [List.getD_eq_getElem?_getD, this]; rfl, e1⟩
theorem g_CS {S : List Addr} {K : PySem.W.Frag} {g : TG} {tt : TT} {te : TE} {vs : List Nat} {σ : L2.St} {H1 : Hp} {Q : VK} {z : Str} (hS : ∀ b ∈ S, ∃ o, H1 b = some o)
    (h : CLoop S z.cps.size (fun i => .str ⟨#[z.cps.getD i 0]⟩) g tt te vs σ H1 Q) : CU K g tt te vs σ Q (.str z) H1 := by
  refine .inr (.inr ⟨z, rfl, cb_of hS (fun i H hi k => hi) (fun i H x H' hi k y => ?_) (fun H k => Nat.le_refl _) h⟩)
  obtain ⟨e1, c, e2, e3⟩ := y
  refine ⟨?_, e1⟩
  rw [e3, Array.getD_eq_getD_getElem?, e2]
  rfl

/-! ### a text's place in a tuple of texts -/
section
variable {X : Cx} {o e : Expr} {to te : TE} {apos cpos : Pos}
def tIdx (K : PySem.W.Frag) (to : TE) (t : TA) : TE := fun σ H Q => to σ H fun x H1 => ∃ (a : Addr) (ys : List Str), x = .ref a ∧ Tup H1 a (ys.map V.str) ∧ t σ H1 fun vs H2 =>
  ∃ (z : Str) (j : Nat), vs = [.str z] ∧ Tup H2 a (ys.map V.str) ∧ ys[j]? = some z ∧ (∀ m, m < j → ys[m]? ≠ some z) ∧ Q (.int (j : Nat)) H2
theorem pe_idx {t : TA} (ho : PE X o to) (ha : PA X [e] t) (hbase : attributeBase o "index" X.env (eval o X.env) = eval o X.env := by rfl)
    (hfew : ((backTo cpos (starEach [e] X.env)).all (fun x => !x.1) && (backToKw cpos (keywordEach [] X.env)).all (fun x => x.1.isSome)
      && decide (([e] : List Expr).length + ([] : List Keyword).length + (if ([] : List Keyword).isEmpty then 0 else 1) < 30)) = true := by rfl)
    (hline : (apos.endLine == cpos.line) = true := by rfl) (hs : starEach [e] X.env = (false, eval e X.env) :: starEach [] X.env := by rfl) (hplain : (backTo cpos (starEach [] X.env)).any (·.1) = false := by rfl) :
    PE X (.Call (.Attribute o "index" apos) [e] [] cpos) (tIdx X.K to t) := by
  constructor
  intro pins s σ H Q I h
  have run := ho.run pins s σ H _ I h
  refine wpAny_Call_method_late hbase hfew hline rfl (thn run fun v s1 w => ?_)
  obtain ⟨x, H1, I1, r1, a, ys, rfl, tu, q1⟩ := w
  cases r1
  obtain ⟨its, n, rv, z, hob⟩ := tu.obj I1
  refine ⟨"tuple", "tuple.index", PySem.F.plainAttrs_tuple, PySem.F.slot_tuple_index, PySem.F.type_tuple_index, ⟨_, hob, rfl⟩, fun b e => ?_, ?_⟩
  · cases e
    exact ⟨_, hob, rfl⟩
  have args := ha.run cpos pins s1 σ H1 _ I1 q1
  rw [hs] at args ⊢
  refine Calls.callWith_builtin (by show (false || (backTo cpos (starEach [] X.env)).any (·.1)) = false; rw [hplain] <;> rfl) (Calls.evalArgs_plain ?_)
  refine thn args fun us s2 y => ?_
  obtain ⟨vs, H2, I2, r2, zz, j, rfl, t2, ej, em, q2⟩ := y
  exact mt_tup_index pins s2 σ H2 (.ref a) [.str zz] (.ref a) us Q I2 rfl r2 ⟨a, ys, zz, j, rfl, rfl, t2.sq, ej, em, q2⟩
end

/-! ### texts -/
section
variable {X : Cx} {o e : Expr} {to te : TE} {apos pos : Pos}
def uJoin (K : PySem.W.Frag) : V → List V → Hp → VK → Prop := fun x xs H Q => ∃ a p, ∃ ys : List Str, x = .str a ∧ xs = [.ref p] ∧ (SqL K H p (ys.map V.str) ∨ SqT K H p (ys.map V.str)) ∧ (ys.map (·.length)).sum + ys.length * a.length ≤ 16777216 ∧ Q (.str (Txt.join a ys)) H
theorem pe_uJoin (ho : PE X o to) (he : PE X e te) (hs : starEach [e] X.env = [(false, eval e X.env)] := by rfl) (hbase : attributeBase o "join" X.env (eval o X.env) = eval o X.env := by rfl) (hline : (apos.endLine == pos.line) = true := by rfl) :
    PE X (.Call (.Attribute o "join" apos) [e] [] pos) (tM1 (uJoin X.K) to te) := pe_join ho he hs hbase hline
def uSplit : V → List V → Hp → VK → Prop := fun x xs H Q => ∃ a b, x = .str a ∧ xs = [.str b] ∧ (b.length == 0) = false ∧ a.length + 2 ≤ sizeLine ∧ Mk H (.lst ((Txt.split a b).map V.str)) Q
theorem mt_uSplit : MtR X "str.split" uSplit := by
  intro pins s σ H x xs v us Q I rx rs h
  obtain ⟨a, b, e1, e2, h1, h2, q⟩ := h
  exact mt_split pins s σ H x xs v us Q I rx rs ⟨a, b, e1, e2, h1, h2, fun p n => q.at p n⟩
theorem pe_uSplit (ho : PE X o to) (he : PE X e te) (hs : starEach [e] X.env = [(false, eval e X.env)] := by rfl) (hbase : attributeBase o "split" X.env (eval o X.env) = eval o X.env := by rfl) (hline : (apos.endLine == pos.line) = true := by rfl) :
    PE X (.Call (.Attribute o "split" apos) [e] [] pos) (tM1 uSplit to te) := pe_m1 PySem.F.slot_str_split PySem.F.type_str_split mt_uSplit ho he hs hbase hline
end
end Wg

/-! Wagon, part 9: list(reversed(list)). -/
namespace Wg
open PySem PySem.Spec PyProof.Rows L2
section
variable {prog : Program} {w : World} {A : Around} {E : Value → Shared → Prop} {s : Shared}
/-- what a new list takes out of a list walked from behind -/
theorem takes_back {it l S : Addr} {items : Array Value} {R : Result → Shared → Prop} (hh : A.handled = none) (hit : s.heap.IsRevIter it l ((items.size : Int) - 1)) (hl : s.heap.IsList l items) (hne : l ≠ it) (hn : items.size ≤ sizeLine)
    (hSi : S ≠ it) (hSl : S ≠ l) (hS : s.heap.get? S = some { cls := .type "list", data := .seq #[] })
    (hR : ∀ (h' : Heap) (tk : Nat) (acc : Array Value) (c' : Nat), (∀ b o, b ≠ S → b ≠ it → s.heap.get? b = some o → h'.get? b = some o) → h'.get? S = some { cls := .type "list", dict := none, data := .seq acc c', slots := #[] } →
      ItemsOf (fun i v => items[items.size - 1 - i]? = some v) acc items.size → R (.ok (.ret .none)) { s with heap := h', toks := tk }) :
    wpAny (model prog w) A.in1 (Builtin.«list.__init__» ⟨[.ref S, .ref it], []⟩)
      (fun fin s' => match fin with | .done f => R (.ok f) s' | .again c' => c'.quiet = true ∧ codeAny (model prog w) A c' R s') (fun e s' => R (.error e) s') s := by
  have W := (Walks.listRev (prog := prog) (w := w) (A := A.in1) hh it l hne items).toS
  have hSf : S ∉ [it, l] := by simp only [List.mem_cons, List.not_mem_nil, or_false, not_or]; exact ⟨hSi, hSl⟩
  show wpAny _ A.in1 (do let old ← Builtin.List.listItems (.ref S); Builtin.List.listUpdate (.ref S) (fun _ => #[]); letGo old.toList.reverse; Builtin.List.listExtendWith (.ref S) (.ref it) .none) _ _ s
  refine wpAny_bind ?_
  unfold Builtin.List.listItems
  refine wpAny_bind (wpAny_seqItems hS rfl (wpAny_pure ?_))
  show wpAny _ A.in1 (updateSeq S (fun _ => #[]) >>= fun _ => letGo (#[] : Array Value).toList.reverse >>= fun _ => Builtin.List.listExtendWith (.ref S) (.ref it) .none) _ _ s
  refine wpAny_bind (wpAny_updateSeq hS rfl ?_)
  have hS₂ := Heap.get?_update_self (Obj.mapSeq (fun _ => (#[] : Array Value))) hS rfl
  have oth₂ : ∀ b o, b ≠ S → s.heap.get? b = some o → (s.heap.update S (Obj.mapSeq (fun _ => (#[] : Array Value)))).get? b = some o := fun b o hb e => (Heap.get?_update_other _ _ (Ne.symm hb)).trans e
  refine wpAny_bind (wpAny_letGo ?_)
  have hit2 := hit.at (h' := s.heap.update S (Obj.mapSeq (fun _ => (#[] : Array Value)))) fun o e => oth₂ it o (Ne.symm hSi) e
  have hl2 : (s.heap.update S (Obj.mapSeq (fun _ => (#[] : Array Value)))).IsList l items := hl.at fun o e => oth₂ l o (Ne.symm hSl) e
  have hT : ({ s with heap := s.heap.update S (Obj.mapSeq (fun _ => (#[] : Array Value))) } : Shared).TypeIs (.ref it) "list_reverseiterator" := Heap.IsRevIter.typeIs (s := { s with heap := s.heap.update S (Obj.mapSeq (fun _ => (#[] : Array Value))) }) hit2
  have h1 : Builtin.List.listSameRef (.ref S) (.ref it) = false := by simp [Builtin.List.listSameRef, hSi]
  unfold Builtin.List.listExtendWith
  refine wpAny_bind (wpAny_typeOf hT ?_)
  rw [if_neg (by rw [h1]; decide)]
  refine wpAny_bind (wpAny_pyIter_revIter (s := { s with heap := s.heap.update S (Obj.mapSeq (fun _ => (#[] : Array Value))) }) hit2 ?_)
  refine wpAny_bind (wpAny_holding ?_)
  unfold Builtin.List.listLengthHint
  refine wpAny_bind (wpAny_specialOf hT RT.nolen_lri ?_)
  show wpAny _ A.in1 (specialOf (Value.ref it) (Str.ofString "__length_hint__") >>= _) _ _ _
  refine wpAny_bind (wpAny_specialOf hT RT.hint_lri ?_)
  generalize hid : ("list_reverseiterator.__length_hint__" : String) = id0
  wp_delta
  rw [show splitId id0 = some ("list_reverseiterator", "__length_hint__") from by subst hid; decide +kernel]
  subst hid
  refine wpAny_bind (wpAny_isInstance (b := true) hT (by rw [isSubtype_type]; kernel_rfl) ?_)
  refine wpAny_pure ?_
  rw [if_neg (by decide)]
  have e0 : ((items.size : Nat) : Int) - 1 - ((0 : Nat) : Int) = (items.size : Int) - 1 := by omega
  refine wpAny_pure ⟨plainId_quiet F.plain_extend_loop _, codeAny_extend_loopS W hn _ hSf _ items.size 0 _ _ _ rfl (Nat.zero_le _) ⟨Nat.zero_le _, by rw [e0]; exact hit2, hl2⟩ hS₂ (ItemsOf.nil _) fun s' acc' c' hm hS' hacc => ?_⟩
  rw [Moved.eq_with hm]
  refine hR s'.heap s'.toks acc' c' (fun b o h1 h2 e => hm.heap b o (fun hmem => ?_) (oth₂ b o h1 e)) hS' hacc
  rcases List.mem_cons.mp hmem with e' | hmem
  · exact h1 e'
  · exact h2 (List.mem_singleton.mp hmem)
theorem call_list_back {it l : Addr} {items : Array Value} {Q : Value → Shared → Prop} (hh : A.handled = none) (hit : s.heap.IsRevIter it l ((items.size : Int) - 1)) (hl : s.heap.IsList l items) (hne : l ≠ it) (hn : items.size ≤ sizeLine)
    (hQ : ∀ (h' : Heap) (tk : Nat) (acc : Array Value) (c' : Nat), (∀ b o, b ≠ it → s.heap.get? b = some o → h'.get? b = some o) → h'.get? s.heap.objs.size = some { cls := .type "list", dict := none, data := .seq acc c', slots := #[] } →
      ItemsOf (fun i v => items[items.size - 1 - i]? = some v) acc items.size → Q (.ref s.heap.objs.size) { s with heap := h', toks := tk }) :
    wpAny (model prog w) A (call (.type "list") [.ref it]) Q E s := by
  obtain ⟨oi, hoi, _⟩ := id hit
  obtain ⟨ol, hol, _⟩ := id hl
  have hSi : s.heap.objs.size ≠ it := Nat.ne_of_gt (Heap.lt_size hoi)
  have hSl : s.heap.objs.size ≠ l := Nat.ne_of_gt (Heap.lt_size hol)
  refine callType_codes (Q₁ := fun obj s₁ => obj = .ref s.heap.objs.size ∧ s₁ = { s with heap := s.heap.push { cls := .type "list", data := .seq #[] } }) F.called_list (F.typeCall_list_1 _) F.entry_list_init
    (code_list_new _ ⟨rfl, rfl⟩) fun obj s₁ h₁ => ?_
  obtain ⟨rfl, rfl⟩ := h₁
  have hS : (s.heap.push { cls := .type "list", data := .seq #[] }).get? s.heap.objs.size = some { cls := .type "list", data := .seq #[] } := Heap.get?_push_size _ rfl
  refine ⟨⟨_, hS, rfl⟩, F.args_list_init_2 _ _, takes_back (s := { s with heap := s.heap.push { cls := .type "list", data := .seq #[] } }) (A := A.in1) hh (hit.at fun o e => Heap.get?_push_of_some _ e) (hl.push _) hne hn hSi hSl hS fun h' tk acc c' hk hS' hacc => ?_⟩
  refine ⟨rfl, hQ h' tk acc c' (fun b o hb e => hk b o (fun e' => absurd (Heap.lt_size e) (by rw [e']; exact Nat.lt_irrefl _)) hb (Heap.get?_push_of_some _ e)) hS' hacc⟩
end
def uLRev (K : PySem.W.Frag) (te : TE) : TE := fun σ H Q => te σ H fun x H1 => ∃ p ys, x = .ref p ∧ SqL K H1 p ys ∧ Mk H1 (.lst ys.reverse) Q
section
variable {X : Cx}
theorem pe_uLRev {e : Expr} {te : TE} {p p2 pos pos2 : Pos} (hc : X.calm = true) (hg : Gl X "list") (hm : X.mg "list" = none) (hg2 : Gl X "reversed") (hm2 : X.mg "reversed" = none) (he : PE X e te)
    (hs : starEach [e] X.env = (false, eval e X.env) :: starEach [] X.env := by rfl)
    (hs2 : starEach [.Call (.Name "reversed" p2) [e] [] pos2] X.env = (false, eval (.Call (.Name "reversed" p2) [e] [] pos2) X.env) :: starEach [] X.env := by rfl) :
    PE X (.Call (.Name "list" p) [.Call (.Name "reversed" p2) [e] [] pos2] [] pos) (uLRev X.K te) := by
  refine ⟨fun pins s σ H Q I h => ?_⟩
  refine Call_ (ld_blt I hg hm boot_list (PyProof.Rows.callWith_type1 (args_cons (Call_ (ld_blt I hg2 hm2 PyProof.Rows.boot_reversed (PyProof.Rows.callWith_type1 (args_cons (thn (he.run pins s σ H _ I h) fun u s1 ⟨v, H1, I1, r1, q1⟩ => args_nil ?_) hs) hs rfl))) hs2) hs2 rfl))
  obtain ⟨a, xs, ev, hq, q⟩ := q1
  subst ev
  obtain rfl : u = Value.ref a := r1
  obtain ⟨its, rv, p', hz⟩ := I1.list hq
  refine call_reversed_list p'.isList (args_nil ?_)
  have hl := p'.isList
  obtain ⟨ol, hol, _⟩ := id hl
  have hne : a ≠ s1.heap.objs.size := Nat.ne_of_lt (Heap.lt_size hol)
  have hn : its.toArray.size ≤ sizeLine := by rw [List.size_toArray, ← rv.length]; exact hz
  have hsz : (s1.heap.push (revObj a ((its.toArray.size : Int) - 1))).objs.size = s1.heap.objs.size + 1 := by simp [Heap.push]
  refine call_list_back (s := { s1 with heap := s1.heap.push (revObj a ((its.toArray.size : Int) - 1)) }) (I1.ok.hd hc) ⟨_, Heap.get?_push_size _ rfl, rfl, rfl⟩ (hl.push _) hne hn fun h' tk acc c' hk hS hi => ?_
  have k0 : ∀ b o, s1.heap.get? b = some o → h'.get? b = some o := fun b o e => hk b o (Nat.ne_of_lt (Heap.lt_size e)) (Heap.get?_push_of_some _ e)
  have le : s1.heap.objs.size ≤ (s1.heap.push (revObj a ((its.toArray.size : Int) - 1))).objs.size := by rw [hsz]; exact Nat.le_succ _
  refine ⟨.ref _, upd H1 _ (.lst xs.reverse), I1.laid (t' := tk) k0 le (show ObjOk X.prog X.w _ h' _ (.lst xs.reverse) from ⟨by rw [List.length_reverse]; exact hz, acc.toList, c', RT.vals_rev rv hi, ?_⟩), rfl, q.at _ (I1.hok.fresh le)⟩
  rw [Array.toArray_toList]
  exact hS
end
theorem g_lrev {K : PySem.W.Frag} {p : Addr} {ys : List V} {H : Hp} {Q : VK} (h : SqL K H p ys) (q : ∀ l H', H l = none → Keep [] H H' → H' l = some (.lst ys.reverse) → Q (.ref l) H') : ∃ p' ys', V.ref p = .ref p' ∧ SqL K H p' ys' ∧ Mk H (.lst ys'.reverse) Q := ⟨p, ys, rfl, h, q⟩
end Wg

/-! Wagon, part 10: {i: j}. -/
namespace Wg
open PySem PySem.Spec PyProof.Rows L2
section
variable {X : Cx} {pos : Pos}
def tDicI (i j : Int) : TE := fun _ H Q => Mk H (.dK [(.inl i, .int j)]) Q
theorem pe_dicI {k v : Expr} {i j : Int} (hk : PE X k (tC (.int i))) (hv : PE X v (tC (.int j))) : PE X (.Dict [some k] [v] pos) (tDicI i j) := by
  constructor
  intro pins s σ H Q I q
  refine (pe_disp (pps_cons hk hv pps_nil) rfl rfl (by simp) (by simp)).run pins s σ H Q I fun p n => ?_
  refine ⟨upd_same, [(.inl i, .int j)], rfl, by simp, ?_⟩
  rw [upd_upd]
  exact q.at p n
end
end Wg

/-! Wagon, part 11: enumerate(tuple), min of a list. -/
namespace Wg
open PySem PySem.Spec PyProof.Rows L2
theorem en_new (l : Addr) (items : Array Value) (n : Nat) (dct : Option Addr) (sl : Array (Option Value)) :
    Meets (Builtin.«enumerate.__new__» ⟨[.type "enumerate", .ref l], []⟩) (fun _ R s => s.heap.get? l = some { cls := .type "tuple", dict := dct, data := .seq items n, slots := sl } ∧
      R (.ok (.ret (.ref (s.heap.push { cls := .type "tuple_iterator", data := .fields #[.ref l, .int 0 0] }).objs.size)))
        { s with heap := (s.heap.push { cls := .type "tuple_iterator", data := .fields #[.ref l, .int 0 0] }).push { cls := .type "enumerate", data := .fields #[.none, .bool false, .ref s.heap.objs.size, rawInt 0, .none, .none] } }) :=
  .of_wp fun prog w A R s h => by
    obtain ⟨hp, g, d, tk, os⟩ := s
    obtain ⟨hl, h⟩ := h
    have hsub := sub_enumerate
    have hL : Heap.IsTuple (Shared.heap ⟨hp, g, d, tk, os⟩) l items := ⟨_, hl, rfl, n, rfl⟩
    wp_walk using AutoSeq1.wpAny_loadPart' hl
    refine wpAny_stack_any fun st => wpAny_pure ?_
    split
    · rename_i c _ _ _ _ _
      cases (c == Value.type "enumerate")
      · wp_walk using AutoSeq1.wpAny_loadPart' hl, wpAny_pyIter_tuple hL
        exact ⟨_, rfl, h⟩
      · wp_walk using AutoSeq1.wpAny_loadPart' hl, wpAny_pyIter_tuple hL
        exact ⟨_, rfl, h⟩
    · wp_walk using AutoSeq1.wpAny_loadPart' hl, wpAny_pyIter_tuple hL
      exact ⟨_, rfl, h⟩
section
variable {prog : Program} {w : World} {A : Around} {E : Value → Shared → Prop} {s : Shared}
theorem call_en {l : Addr} {items : Array Value} {Q : Value → Shared → Prop} (hL : s.heap.IsTuple l items)
    (h : ∀ h', IsEnum h' (s.heap.objs.size + 1) s.heap.objs.size 0 .none → h'.IsTupleIter s.heap.objs.size l 0 → h'.objs.size = s.heap.objs.size + 2 →
      (∀ b o, s.heap.get? b = some o → h'.get? b = some o) → Q (.ref (s.heap.objs.size + 1)) { s with heap := h' }) :
    wpAny (model prog w) A (call (.type "enumerate") [.ref l]) Q E s := by
  obtain ⟨⟨c, dct, dt, sl⟩, hl, hc, n, hd⟩ := hL
  replace hc : c = .type "tuple" := hc
  replace hd : dt = .seq items n := hd
  subst hc hd
  refine callType_new F.called_enumerate (by decide) (F.typeCall_enumerate_1 _) (F.newCall_enumerate_1 _) (fun obj => F.args_object_init_2 obj _) F.entry_enumerate_new
    (en_new l items n dct sl) ⟨hl, ?_⟩
  have hz : (s.heap.push { cls := .type "tuple_iterator", data := .fields #[.ref l, .int 0 0] }).objs.size = s.heap.objs.size + 1 := Heap.size_push ..
  show _ ∧ _
  rw [hz]
  have he : IsEnum ((s.heap.push { cls := .type "tuple_iterator", data := .fields #[.ref l, .int 0 0] }).push
      { cls := .type "enumerate", data := .fields #[.none, .bool false, .ref s.heap.objs.size, rawInt 0, .none, .none] }) (s.heap.objs.size + 1) s.heap.objs.size 0 .none := by
    have := Heap.get?_push_size (s.heap.push { cls := .type "tuple_iterator", data := .fields #[.ref l, .int 0 0] })
      (o := { cls := .type "enumerate", data := .fields #[.none, .bool false, .ref s.heap.objs.size, rawInt 0, .none, .none] }) rfl
    rw [hz] at this
    exact this
  exact ⟨⟨_, he, rfl⟩, h _ he ⟨_, Heap.get?_push_of_some _ (Heap.get?_push_size _ rfl), rfl, rfl⟩ (by rw [Heap.size_push, hz]) fun b o x => Heap.get?_push_of_some _ (Heap.get?_push_of_some _ x)⟩
end
/-- a tuple's items in new pairs -/
def Itn (a : Addr) (xs : List V) : It :=
  ⟨fun i H => i < xs.length ∧ Tup H a xs, fun i H v H' => ∃ T x, v = .ref T ∧ H T = none ∧ H' = upd H T (.tup [.int (i : Nat), x]) ∧ xs[i]? = some x, fun i H => i = xs.length ∧ Tup H a xs⟩
theorem turn_en {P : Program} {w : World} {K : PySem.W.Frag} {elts : List Expr} {kk : Nat} {tpos : Pos} (a e it : Addr) (xs : List V) :
    Turn P w K (.Tuple elts kk tpos) (Itn a xs) [e, it] e (fun i h => (∃ old, IsEnum h e it ((i : Nat) : Int) old) ∧ h.IsTupleIter it a i ∧ e ≠ it ∧ a ≠ it ∧ a ≠ e) where
  mem := by simp
  obj := fun i h st b hb => by
    obtain ⟨⟨old, he⟩, ⟨o, ho, hc, hd⟩, _⟩ := st
    have e' : b = e ∨ b = it := by simpa using hb
    rcases e' with z | z
    · rw [z]; exact ⟨_, he, fun v q => nomatch q⟩
    · rw [z]; exact ⟨o, ho, fun v q => by rw [hd] at q; cases q⟩
  keep := fun i h h' st k => let ⟨⟨old, he⟩, hi, hne⟩ := st; ⟨⟨old, k e (by simp) _ he⟩, hi.at fun o q => k it (by simp) o q, hne⟩
  item := by
    intro X hP hw hK hc i pins s σ H E I hf st hg
    subst hP hw hK
    obtain ⟨⟨old, he⟩, hit, hne, hai, hae⟩ := st
    obtain ⟨hin, tu⟩ := hg
    obtain ⟨its, rv, p, hz⟩ := I.tuple (tu.sq (K := X.K))
    have hl := rv.length
    have hel : e < s.heap.objs.size := Heap.lt_size he
    have hil : it < s.heap.objs.size := by obtain ⟨_, q, _⟩ := hit; exact Heap.lt_size q
    have D := Draws.tuple (prog := X.prog) (w := X.w) (A := X.A.in1) (I.ok.hd hc) it a hai its.toArray
    have hta : s.heap.IsTuple a its.toArray := p
    refine wpAny_pyNext_enum_itemD D he ⟨hit, hta⟩ (by simp; omega) hne (by simp [hne, Ne.symm hae]) fun x h' tk hP ho hs' hT hsz hk => ?_
    obtain ⟨hit', _⟩ := hs'
    refine ⟨_, rfl, wpAny_letOwnedTupleGo_enum (s := { s with heap := h', toks := tk + 1 }) ho fun h'' he' sb => ?_⟩
    have hT2 : h''.get? s.heap.objs.size = some { cls := .type "tuple", data := .seq #[.int i tk, x] } := (sb.2 _ (Nat.ne_of_gt hel)).trans hT
    have hxi : its[i]? = some x := by simpa using hP
    obtain ⟨u, hu, ru⟩ : ∃ u, xs[i]? = some u ∧ RelV u x := by
      obtain ⟨x', h1, h2⟩ := rv.get (List.getElem?_eq_getElem hin)
      rw [hxi] at h1
      cases h1
      exact ⟨_, List.getElem?_eq_getElem hin, h2⟩
    have new : ObjOk X.prog X.w (upd H s.heap.objs.size (.tup [.int (i : Nat), u])) h'' s.heap.objs.size (.tup [.int (i : Nat), u]) :=
      ⟨by show 2 ≤ sizeLine; decide, [.int i tk, x], .cons ⟨_, rfl⟩ (.cons ru .nil), ⟨_, hT2, rfl, _, rfl⟩⟩
    have I1 : Inv X pins σ (upd H s.heap.objs.size (.tup [.int (i : Nat), u])) { s with heap := h'', toks := tk + 1 } :=
      I.turnedNew (ch := [e, it]) (fun b ob hb q => (sb.2 b (fun z => hb (by simp [z]))).trans (hk b ob (fun z => hb (by simp [z])) (fun z => hb (by simp [z])) q)) hf (Nat.le_refl _) new
    refine ⟨.ref s.heap.objs.size, _, I1, rfl, ⟨_, u, rfl, I.hok.fresh (Nat.le_refl _), rfl, hu⟩, ⟨⟨x, ?_⟩, hit'.at fun o q => (sb.2 it (Ne.symm hne)).trans q, hne, hai, hae⟩, fun b hb => ?_⟩
    · have e1 : ((i + 1 : Nat) : Int) = (i : Int) + 1 := by omega
      rw [e1]
      exact he'
    · have hb' : b < s.heap.objs.size := by
        have e' : b = e ∨ b = it := by simpa using hb
        rcases e' with z | z
        · rw [z]; exact hel
        · rw [z]; exact hil
      rw [upd_ne (Nat.ne_of_lt hb')]
      exact (hf b hb).1
  done := by
    intro X hP hw hK hc i pins s σ H E I hf st hg
    subst hP hw hK
    obtain ⟨⟨old, he⟩, hit, hne, hai, hae⟩ := st
    obtain ⟨hin, tu⟩ := hg
    obtain ⟨its, rv, p, hz⟩ := I.tuple (tu.sq (K := X.K))
    have hl := rv.length
    have hta : s.heap.IsTuple a its.toArray := p
    obtain ⟨f0, f1, f2, f3, f4, f5⟩ := hf it (by simp)
    have D := Draws.tuple (prog := X.prog) (w := X.w) (A := X.A.in1) (I.ok.hd hc) it a hai its.toArray
    have hn : its.toArray.size = i := by simp; omega
    exact wpAny_pyNext_enum_endD D he (by rw [hn]; exact ⟨hit, hta⟩) fun h' eb => ⟨rfl, I.turned (t' := s.toks) (fun b o hb q => eb b o hb q) f0 f1 f3 f4 f5⟩
  self := fun A i s Q E st h => let ⟨⟨_, he⟩, _⟩ := st; wpAny_pyIter_enum he h
def iEnumU (K : PySem.W.Frag) (ta : TA) : TI := fun σ H R => ta σ H fun vs H1 => ∃ a xs, vs = [.ref a] ∧ Tup H1 a xs ∧ R (Itn a xs) H1
theorem pi_enumU {X : Cx} {e : Expr} {ta : TA} {p pos tpos : Pos} {elts : List Expr} {kk : Nat} (hg : Gl X "enumerate") (hm : X.mg "enumerate" = none) (ha : PA X [e] ta) (hs : starEach [e] X.env = [(false, eval e X.env)] := by rfl) :
    PI X (.Tuple elts kk tpos) (.Call (.Name "enumerate" p) [e] [] pos) (iEnumU X.K ta) := by
  refine ⟨fun pins s σ H R I h => ?_⟩
  refine Call_ (ld_blt I hg hm boot_enumerate (PyProof.Rows.callWith_type1 (thn (ha.run pos pins s σ H _ I h) fun us s1 ⟨vs, H1, I1, r1, q1⟩ => ?_) hs rfl))
  obtain ⟨a, xs, ex, tu, q⟩ := q1
  subst ex
  cases r1 with
  | cons r rr =>
    cases rr
    cases r
    obtain ⟨its, rv, p', hz⟩ := I1.tuple (tu.sq (K := X.K))
    have hta : s1.heap.IsTuple a its.toArray := p'
    have hal : a < s1.heap.objs.size := by obtain ⟨_, q, _⟩ := hta; exact Heap.lt_size q
    refine call_en hta fun h' he hit hsz hk => wpAny_pyIter_enum he ?_
    have I2 : Inv X pins σ H1 { s1 with heap := h' } := I1.kept (t' := s1.toks) hk
    refine ⟨s1.heap.objs.size + 1, [s1.heap.objs.size + 1, s1.heap.objs.size], _, _, H1, rfl, I2, turn_en a (s1.heap.objs.size + 1) s1.heap.objs.size xs, ⟨⟨.none, he⟩, hit, Nat.succ_ne_self _, Nat.ne_of_lt hal, Nat.ne_of_lt (Nat.lt_succ_of_lt hal)⟩, fun b hb => ?_, q⟩
    have e' : b = s1.heap.objs.size + 1 ∨ b = s1.heap.objs.size := by simpa using hb
    have hle : s1.heap.objs.size ≤ b := by
      rcases e' with z | z
      · rw [z]; exact Nat.le_add_right _ _
      · rw [z]; exact Nat.le_refl _
    exact I1.fpOk hle (I1.hok.fresh hle)
/-- a for over enumerate(tuple), behind its argument -/
def FE (g : TG) (tb : TS) (D : Ends) (σ : L2.St) (vs : List V) (H1 : Hp) : Prop := ∃ a xs, vs = [.ref a] ∧ Tup H1 a xs ∧ ∃ W : Nat → Nat → L2.St → Hp → Prop, (∃ m, W 0 m σ H1) ∧ ∀ i m σ H, W i m σ H →
  ((Itn a xs).stop i H ∧ D.nx σ H) ∨ ((Itn a xs).go i H ∧ ∃ N : L2.St → Hp → Prop, (∀ σ' H', N σ' H' → ∃ m', m' < m ∧ W (i + 1) m' σ' H') ∧ ∀ x H', (Itn a xs).yld i H x H' → g x σ H' fun σ2 H2 => tb { D with nx := N, ct := N, bk := D.nx } σ2 H2)
theorem e_forE {K : PySem.W.Frag} {ta : TA} {g : TG} {tb : TS} {D : Ends} {σ : L2.St} {H : Hp} : tFor (iEnumU K ta) g tb D σ H ↔ ta σ H (FE g tb D σ) := Iff.rfl
theorem g_FE {g : TG} {tb : TS} {D : Ends} {σ : L2.St} {H1 : Hp} {a : Addr} {xs : List V} (Pv : Nat → L2.St → Hp → Prop) (h : Tup H1 a xs) (h0 : Pv 0 σ H1) (hl : ∀ i σ H, i ≤ xs.length → Pv i σ H → Tup H a xs)
    (hs : ∀ i x σ H T H', xs[i]? = some x → Pv i σ H → H T = none → Keep [] H H' → H' T = some (.tup [.int (i : Nat), x]) → g (.ref T) σ H' fun σ2 H2 => tb { D with nx := Pv (i + 1), ct := Pv (i + 1), bk := D.nx } σ2 H2) (hd : ∀ σ H, Pv xs.length σ H → D.nx σ H) : FE g tb D σ [.ref a] H1 := by
  refine ⟨a, xs, rfl, h, fun i m σ H => m = xs.length - i ∧ i ≤ xs.length ∧ Pv i σ H, ⟨xs.length, by simp, Nat.zero_le _, h0⟩, ?_⟩
  rintro i m σ H ⟨rfl, hi, p⟩
  have tu := hl i σ H hi p
  by_cases hlt : i < xs.length
  · refine .inr ⟨⟨hlt, tu⟩, Pv (i + 1), fun σ' H' p' => ⟨xs.length - (i + 1), by omega, rfl, hlt, p'⟩, fun x H' y => ?_⟩
    obtain ⟨T, u, rfl, nT, rfl, hu⟩ := y
    exact hs i u σ H T _ hu p nT (Keep.new nT) upd_same
  · have e : i = xs.length := by omega
    subst e
    exact .inl ⟨⟨rfl, tu⟩, hd σ H p⟩
theorem g_pair {K : PySem.W.Frag} {p : Addr} {xs : List V} {n : Nat} {t : TGs} {σ : L2.St} {H : Hp} {Q : L2.St → Hp → Prop} (h : H p = some (.tup xs)) (l : xs.length = n) (q : t xs σ H Q) : gTup K n t (.ref p) σ H Q := ⟨p, xs, rfl, .inl (.inl h), l, q⟩
/-- l[::-1] -/
theorem g_revl {K : PySem.W.Frag} {p : Addr} {ys : List V} {H : Hp} {Q : VK} (h : SqL K H p ys) (q : ∀ l H', H l = none → Keep [] H H' → H' l = some (.lst ys.reverse) → Q (.ref l) H') : ∃ a xs, V.ref p = .ref a ∧ SqL K H a xs ∧ ∀ l, H l = none → Q (.ref l) (upd H l (.lst xs.reverse)) :=
  ⟨p, ys, rfl, h, fun l n => q l _ n (Keep.new n) upd_same⟩
/-- min(list of numbers) -/
theorem g_min {K : PySem.W.Frag} {a : Addr} {ns : List Int} {H : Hp} {Q : VK} (h : H a = some (.lst (ns.map V.int))) (l : 0 < ns.length) (q : ∀ m, m ∈ ns → (∀ y, y ∈ ns → m ≤ y) → Q (.int m) H) : rMin K [.ref a] H Q := ⟨a, ns, rfl, lst_sq h, l, q⟩
end Wg

/-! Wagon, part 12: pop, reverse, extend, zip of two tuples in a comprehension. -/
namespace Wg
open PySem PySem.Spec PyProof.Rows L2 RZ
section
variable {X : Cx}
def uPopAt : V → List V → Hp → VK → Prop := fun x vs H Q => ∃ l xs i k y, x = .ref l ∧ vs = [.int i] ∧ H l = some (.lst xs) ∧ -(2 ^ 63) ≤ i ∧ i < 2 ^ 63 ∧ seqIndex? i xs.length = some k ∧ xs[k]? = some y ∧ Ch H l (.lst (xs.eraseIdx k)) (Q y)
theorem mt_uPopAt : MtM X "list.pop" uPopAt := by
  intro pins s σ H x vs v us Q I rx rv h
  obtain ⟨l, xs, i, k, y, e1, e2, e3, e4, e5, e6, e7, q⟩ := h
  exact mt_popAt pins s σ H x vs v us Q I rx rv ⟨l, xs, i, k, y, e1, e2, e3, e4, e5, e6, e7, q.at⟩
def uReverse : V → List V → Hp → VK → Prop := fun x vs H Q => ∃ l xs, x = .ref l ∧ vs = [] ∧ H l = some (.lst xs) ∧ Ch H l (.lst xs.reverse) (Q .non)
theorem mt_uReverse : MtM X "list.reverse" uReverse := by
  intro pins s σ H x vs v us Q I rx rv h
  obtain ⟨l, xs, e1, e2, e3, q⟩ := h
  exact mt_reverse pins s σ H x vs v us Q I rx rv ⟨l, xs, e1, e2, e3, q.at⟩
def uExtend : V → List V → Hp → VK → Prop := fun x vs H Q => ∃ l b xs zs, x = .ref l ∧ vs = [.ref b] ∧ H l = some (.lst xs) ∧ H b = some (.lst zs) ∧ xs.length + zs.length ≤ sizeLine ∧ Ch H l (.lst (xs ++ zs)) (Q .non)
theorem mt_uExtend : MtM X "list.extend" uExtend := by
  intro pins s σ H x vs v us Q I rx rv h
  obtain ⟨l, b, xs, zs, e1, e2, e3, e4, e5, q⟩ := h
  exact mt_extend pins s σ H x vs v us Q I rx rv ⟨l, b, xs, zs, e1, e2, e3, e4, e5, q.at⟩
end
theorem g_popAt {l : Addr} {xs : List V} {i : Int} {k : Nat} {y : V} {H : Hp} {Q : VK} (h : H l = some (.lst xs)) (e : i = (k : Int)) (hk : k < xs.length) (hb : xs.length ≤ 1000) (hy : xs[k]? = some y) (q : ∀ H', Keep [l] H H' → H' l = some (.lst (xs.eraseIdx k)) → Q y H') : uPopAt (.ref l) [.int i] H Q := by
  refine ⟨l, xs, i, k, y, rfl, rfl, h, by omega, by omega, ?_, hy, q⟩
  subst e
  unfold seqIndex?
  have h0 : ¬ ((k : Int) < 0) := by omega
  simp only [h0, if_false]
  rw [if_pos (by simp; omega), Int.toNat_natCast]
theorem g_reverse {l : Addr} {xs : List V} {H : Hp} {Q : VK} (h : H l = some (.lst xs)) (q : ∀ H', Keep [l] H H' → H' l = some (.lst xs.reverse) → Q .non H') : uReverse (.ref l) [] H Q := ⟨l, xs, rfl, rfl, h, q⟩
/-- a comprehension over zip of two tuples, behind its arguments -/
def CZ (K : PySem.W.Frag) (g : TG) (tt : TT) (te : TE) (vs : List Nat) (σ : L2.St) (Q : VK) (xs : List V) (H1 : Hp) : Prop := ∃ a b us ws, xs = [.ref a, .ref b] ∧ ((SqL K H1 a us ∧ SqL K H1 b ws ∧ CB (Itz K a b) g tt te vs σ Q H1) ∨ (SqT K H1 a us ∧ SqT K H1 b ws ∧ CB (ItzT K a b) g tt te vs σ Q H1))
theorem e_lcZ {K : PySem.W.Frag} {ta : TA} {g : TG} {tt : TT} {te : TE} {vs : List Nat} {σ : L2.St} {H : Hp} {Q : VK} : tLc (iZipA K ta) g tt te vs σ H Q ↔ ta σ H (CZ K g tt te vs σ Q) := Iff.rfl
theorem g_CZ {K : PySem.W.Frag} {g : TG} {tt : TT} {te : TE} {vs : List Nat} {σ : L2.St} {Q : VK} {H1 : Hp} {a b : Addr} {us ws : List V} (ha : Tup H1 a us) (hb : Tup H1 b ws) (hl : us.length = ws.length) (P : Nat → Hp → List V → Prop)
    (p0 : ∀ D H2, H1 D = none → Keep [] H1 H2 → P 0 H2 [])
    (ps : ∀ D i x y H acc (R : VK) (R0 : Hp → Prop) T H', H1 D = none → us[i]? = some x → ws[i]? = some y → Keep [] H1 H' → H' D = some (.lst acc) → Keep [] H H' → P i H acc → H' T = some (.tup [x, y]) →
      (∀ z H4, Keep [] H' H4 → acc.length < sizeLine → (∀ H5, Keep [D] H4 H5 → P (i + 1) H5 (acc ++ [z])) → R z H4) → (∀ H3, Keep [] H' H3 → P (i + 1) H3 acc → R0 H3) →
      g (.ref T) (wipe σ vs) H' fun σ2 H2 => wipe σ2 vs = wipe σ vs ∧ tt σ2 H2 fun bb H3 => if bb = true then te σ2 H3 R else R0 H3)
    (pd : ∀ D H acc, H1 D = none → Keep [] H1 H → H D = some (.lst acc) → P us.length H acc → Q (.ref D) H) : CZ K g tt te vs σ Q [.ref a, .ref b] H1 := by
  refine ⟨a, b, us, ws, rfl, .inr ⟨ha.sq, hb.sq, fun D hD => ?_⟩⟩
  refine ⟨fun i m H => m = us.length - i ∧ i ≤ us.length ∧ Keep [] H1 H ∧ ∃ acc, H D = some (.lst acc) ∧ P i H acc, ⟨us.length, by omega, by omega, Keep.new hD, [], upd_same, p0 D _ hD (Keep.new hD)⟩, ?_⟩
  rintro i m H ⟨rfl, hi, k, acc, eD, p⟩
  have ta := (ha.keep k nin0).sq (K := K)
  have tb := (hb.keep k nin0).sq (K := K)
  by_cases hlt : i < us.length
  · have hx := List.getElem?_eq_getElem hlt
    have hy := List.getElem?_eq_getElem (show i < ws.length by omega)
    refine .inr ⟨⟨us, ws, _, _, ta, tb, hx, hy⟩, fun H' => i + 1 ≤ us.length ∧ Keep [] H1 H' ∧ ∃ acc, H' D = some (.lst acc) ∧ P (i + 1) H' acc, fun H' q => ⟨us.length - (i + 1), by omega, rfl, q⟩, fun v H' y => ?_⟩
    obtain ⟨T, x', y', rfl, hT, rfl, f1, f2⟩ := y
    have kn : Keep [] H (upd H T (.tup [x', y'])) := Keep.new hT
    refine ps D i x' y' H acc _ _ T _ hD (f1 us ta) (f2 ws tb) (k.trans kn) (kn _ _ nin0 eD) kn p upd_same (fun z H4 k4 hz q => ⟨acc, k4 _ _ nin0 (kn _ _ nin0 eD), hz, hlt, (k.trans (kn.trans k4)).past Keep.set hD, _, upd_same, q _ Keep.set⟩) fun H3 k3 q => ⟨hlt, k.trans (kn.trans k3), acc, k3 _ _ nin0 (kn _ _ nin0 eD), q⟩
  · have e : i = us.length := by omega
    subst e
    exact .inl ⟨⟨us, ws, ta, tb, .inl (Nat.le_refl _)⟩, pd D H acc hD k eD p⟩
/-! d[k], d[k] = v by values -/
def uDG (x y : V) (H : Hp) (Q : VK) : Prop := ∃ a v, x = .ref a ∧ DGet H a y (some v) ∧ Q v H
theorem e_dget {td ty : TE} {σ : L2.St} {H : Hp} {Q : VK} : tDGet td ty σ H Q ↔ td σ H fun x H1 => ty σ H1 fun y H2 => uDG x y H2 Q := Iff.rfl
def uDP (x y v : V) (H : Hp) (R : Hp → Prop) : Prop := ∃ a H4, x = .ref a ∧ DPut H a y v H4 ∧ R H4
theorem e_dput {td ty tv : TE} {D : Ends} {σ : L2.St} {H : Hp} : sDPut td ty tv D σ H ↔ tv σ H fun v H1 => td σ H1 fun x H2 => ty σ H2 fun y H3 => uDP x y v H3 (D.nx σ) := Iff.rfl
end Wg

/-! Wagon, part 13: sorted of alike data. -/
namespace Wg
open PySem PySem.Spec PyProof.Rows L2
theorem each_vals {α : Type} {RR : V → α → Prop} : ∀ {xs : List V} {us : List Value} {rs : List α}, Vals xs us → PySem.W.EachIs RR xs rs → PySem.W.EachIs (fun u r => ∃ x, RelV x u ∧ RR x r) us rs
  | _, _, _, .nil, .nil => .nil
  | _, _, _, .cons r q, .cons h t => .cons ⟨_, r, h⟩ (each_vals q t)
theorem vals_each {α : Type} {RR : V → α → Prop} : ∀ {us : List Value} {rs : List α}, PySem.W.EachIs (fun u r => ∃ x, RelV x u ∧ RR x r) us rs → ∃ xs, Vals xs us ∧ PySem.W.EachIs RR xs rs
  | _, _, .nil => ⟨[], .nil, .nil⟩
  | _, _, .cons ⟨x, h1, h2⟩ t => let ⟨xs, a, b⟩ := vals_each t; ⟨x :: xs, .cons h1 a, .cons h2 b⟩
/-- sorted(list of alike data): RR tells what the items are -/
def uSorted (K : PySem.W.Frag) : List V → Hp → VK → Prop := fun vs H Q => ∃ (α : Type) (RR : V → α → Prop) (enc : α → PyData) (a : Addr) (xs : List V) (rs : List α), vs = [.ref a] ∧ SqL K H a xs ∧ PySem.W.EachIs RR xs rs ∧
  (∀ x r, RR x r → Dp K H x (enc r)) ∧ PySem.W.AllAlike (rs.map enc) ∧ PySem.W.Sortable (rs.map enc) ∧ (∀ r ∈ rs, (enc r).depth ≤ 50) ∧
  ∀ ys, ys.length = xs.length → PySem.W.EachIs RR ys (rs.mergeSort (PySem.W.dataLe false enc)) → Mk H (.lst ys) Q
theorem call_uSorted {X : Cx} (hu : X.A.units + 64 < cLine) : CallR X (.builtin "sorted") (uSorted X.K) := by
  intro pins s σ H vs us Q I r h
  obtain ⟨α, RR, enc, a, xs, rs, rfl, hs, he, hd, ha, hk, hdp, q⟩ := h
  obtain ⟨its, rv, hl, hz⟩ := I.list hs
  obtain ⟨u, rfl, ru⟩ := vals1 r
  obtain rfl : u = Value.ref a := ru
  have er := each_vals rv he
  refine PySem.W.sorted_data (R := fun u r => ∃ x, RelV x u ∧ RR x r) hl.isList er (er.mono fun u r ⟨x, h1, h2⟩ => Dp.reads I _ _ _ (hd x r h2) h1) ha hk (by rw [← he.length]; exact hz) (fun b hb => by have := hdp b hb; omega) fun out ho eo => ?_
  obtain ⟨ys, v1, e1⟩ := vals_each eo
  obtain ⟨n, hn⟩ := sortedAll_at s.heap its (List.toArray out)
  have hly : ys.length = xs.length := by rw [v1.length, ho, he.length]
  refine ⟨.ref (s.heap.objs.size + 1), upd H (s.heap.objs.size + 1) (.lst ys), I.laid (t' := s.toks) (fun b o e => sortedAll_old e) (Nat.le_succ _) ⟨by rw [hly]; exact hz, out, n, v1, hn⟩, rfl, ?_⟩
  have nf := I.hok.fresh (Nat.le_succ s.heap.objs.size)
  exact q ys hly e1 _ _ nf (Keep.new nf) upd_same
end Wg

/-! Wagon, part 14: dict(pairs), list.clear. -/
namespace Wg
open PySem PySem.Spec PyProof.Rows L2
def uDictP (K : PySem.W.Frag) : List V → Hp → VK → Prop := fun xs H Q => ∃ (a : Addr) (ps : List Addr) (kvs : List (Key × V)), xs = [.ref a] ∧ SqL K H a (ps.map V.ref) ∧ Paired (fun p kv => SqT K H p [kV kv.1, kv.2]) ps kvs ∧ Mk H (.dK (mergeK [] kvs)) Q
theorem call_uDictP {X : Cx} (hc : X.calm = true) : CallR X (.type "dict") (uDictP X.K) := by
  intro pins s σ H xs us Q I r h
  obtain ⟨a, ps, kvs, e1, e2, e3, q⟩ := h
  exact call_dictP hc pins s σ H xs us Q I r ⟨a, ps, kvs, e1, e2, e3, fun p n => q.at p n⟩
def uClear : V → List V → Hp → VK → Prop := fun x vs H Q => ∃ l xs, x = .ref l ∧ vs = [] ∧ H l = some (.lst xs) ∧ Ch H l (.lst []) (Q .non)
theorem mt_uClear {X : Cx} : MtM X "list.clear" uClear := by
  intro pins s σ H x vs v us Q I rx rv h
  obtain ⟨l, xs, e1, e2, e3, q⟩ := h
  exact mt_clear pins s σ H x vs v us Q I rx rv ⟨l, xs, e1, e2, e3, q.at⟩
theorem g_clear {l : Addr} {xs : List V} {H : Hp} {Q : VK} (h : H l = some (.lst xs)) (q : ∀ H', Keep [l] H H' → H' l = some (.lst []) → Q .non H') : uClear (.ref l) [] H Q := ⟨l, xs, rfl, rfl, h, q⟩
theorem merge_nodup : ∀ (more acc : List (Key × V)), ((acc ++ more).map (·.1)).Nodup → mergeK acc more = acc ++ more
  | [], acc, _ => (List.append_nil acc).symm
  | (k, v) :: more, acc, h => by
    have e : acc ++ (k, v) :: more = (acc ++ [(k, v)]) ++ more := by simp
    have hk : (acc.any fun kv => decide (kv.1 = k)) = false := by
      rw [List.any_eq_false]
      intro x hx hq
      rw [List.map_append, List.nodup_append] at h
      exact h.2.2 x.1 (List.mem_map.mpr ⟨x, hx, rfl⟩) k (by simp) (of_decide_eq_true hq)
    have hp : putK acc k v = acc ++ [(k, v)] := by
      unfold putK
      rw [hk]
      rfl
    show mergeK (putK acc k v) more = _
    rw [hp, e]
    exact merge_nodup more _ (by rw [← e]; exact h)
end Wg
namespace Wg
open PySem PySem.Spec PyProof.Rows L2
def tTupRgM (te : L2.St → Hp → (Int → Int → Hp → Prop) → Prop) : TE := fun σ H Q => te σ H fun a b H1 => RgOk a b ∧ Mt H1 (rgV a b) Q
theorem pe_tupRgM {X : Cx} {e : Expr} {te : L2.St → Hp → (Int → Int → Hp → Prop) → Prop} {p pos : Pos} (hc : X.calm = true) (hg : Gl X "tuple") (hm : X.mg "tuple" = none) (he : PRg X e te) (na : starEach [e] X.env = (false, eval e X.env) :: starEach [] X.env := by rfl) : PE X (.Call (.Name "tuple" p) [e] [] pos) (tTupRgM te) := by
  refine ⟨fun pins s σ H Q I h => ?_⟩
  refine Call_ (ld_blt I hg hm boot_tuple (PyProof.Rows.callWith_type1 (args_cons (thn (he pins s σ H _ I h) fun x s1 ⟨r, a, b, t, u, v, H1, ex, hr, I1, ok, q⟩ => args_nil ?_) na) na))
  subst ex
  obtain ⟨b1, b2, b3, b4, b5⟩ := ok
  refine call_tuple_range (n := (b - a).toNat) (I1.ok.hd hc) hr (small_one b1 b2 b3 b4) (rangeSize_nat a b) b5 fun h' tk acc hk hi => ?_
  have I2 : Inv X pins σ H1 { s1 with heap := h', toks := tk } := I1.kept hk
  have := mt_end (t' := tk) I2 (vals_rg hi) (by rw [rgV_length, sizeLine_eq]; omega) q
  simpa using this
theorem rgV_ints (n : Nat) : rgV 0 (n : Int) = ((List.range n).map fun i => ((i : Nat) : Int)).map V.int := by
  unfold rgV
  rw [List.map_map]
  simp [Function.comp_def]
end Wg

/-! Wagon, part 15: < and min of alike data. -/
namespace Wg
open PySem PySem.Spec PyProof.Rows L2
def uLtD (K : PySem.W.Frag) : R2 := fun x y H Q => ∃ d e, Dp K H x d ∧ Dp K H y e ∧ PySem.W.alike d e = true ∧ d ≠ .none ∧ d.depth ≤ 50 ∧ Q (.bl (PySem.W.dataLt d e)) H
theorem op_uLtD {X : Cx} (hu : X.A.units + 64 < cLine) : OpR X (compareOp .Lt) (uLtD X.K) := by
  intro pins s σ H x y v u Q I rx ry h
  obtain ⟨d, e, h1, h2, h3, h4, h5, q⟩ := h
  obtain ⟨as, r1⟩ := Dp.reads I _ _ _ h1 rx
  obtain ⟨bs, r2⟩ := Dp.reads I _ _ _ h2 ry
  have := Nat.min_le_left d.depth e.depth
  exact PySem.W.lt_data r1 r2 h3 h4 (by omega) ⟨.bl _, H, I, rfl, q⟩
def uMinD (K : PySem.W.Frag) : List V → Hp → VK → Prop := fun vs H Q => ∃ (α : Type) (RR : V → α → Prop) (enc : α → PyData) (a : Addr) (xs : List V) (r : α) (rs : List α), vs = [.ref a] ∧ SqL K H a xs ∧ PySem.W.EachIs RR xs (r :: rs) ∧
  (∀ x r, RR x r → Dp K H x (enc r)) ∧ PySem.W.AlikeAll ((r :: rs).map enc) ∧ PyData.depthAll ((r :: rs).map enc) ≤ 50 ∧ ∀ x m, RR x m → enc m = PySem.W.minD (enc r) (rs.map enc) → Q x H
theorem each_reads {X : Cx} {pins : List (Addr × Obj)} {σ : L2.St} {H : Hp} {s : Shared} (I : Inv X pins σ H s) {α : Type} {RR : V → α → Prop} {enc : α → PyData} (hd : ∀ x r, RR x r → Dp X.K H x (enc r)) : ∀ {xs : List V} {us : List Value} {rs : List α}, Vals xs us → PySem.W.EachIs RR xs rs → ∃ as, ReadsAll s.heap us (rs.map enc) as
  | _, _, _, .nil, .nil => ⟨[], .nil⟩
  | _, _, _, .cons r q, .cons h t => by
    obtain ⟨as, h1⟩ := Dp.reads I _ _ _ (hd _ _ h) r
    obtain ⟨bs, h2⟩ := each_reads I hd q t
    exact ⟨as ++ bs, .cons h1 h2⟩
theorem call_uMinD {X : Cx} (hc : X.calm = true) (hu : X.A.units + 64 < cLine) : CallR X (.builtin "min") (uMinD X.K) := by
  intro pins s σ H vs us Q I r h
  obtain ⟨α, RR, enc, a, xs, r0, rs, rfl, hs, he, hd, ha, hdp, q⟩ := h
  obtain ⟨its, rv, hl, hz⟩ := I.list hs
  obtain ⟨u, rfl, ru⟩ := vals1 r
  obtain rfl : u = Value.ref a := ru
  obtain ⟨as, hr⟩ := each_reads I hd rv he
  refine PySem.W.min_list_data (I.ok.hd hc) hl.isList (x := enc r0) (xs := rs.map enc) (as := as) hr ha (by have e : PyData.depthAll (enc r0 :: rs.map enc) = PyData.depthAll ((r0 :: rs).map enc) := rfl; omega) fun i v h' tk bs hv rd hk => ?_
  have hv' : its[i]? = some v := by simpa using hv
  obtain ⟨b, hb, x, hx, hR⟩ := (each_vals rv he).left v (List.mem_of_getElem? hv')
  refine ⟨x, H, I.kept hk, hx, q x b hR ?_⟩
  obtain ⟨cs, r2⟩ := Dp.reads I _ _ _ (hd _ _ hR) hx
  exact (reads_det (fun b o e _ => hk b o e) r2 rd).1.symm
theorem minD_map {α : Type} (enc : α → PyData) (r : α) (rs : List α) : PySem.W.minD (enc r) (rs.map enc) = enc (rs.foldl (fun a y => if PySem.W.dataLt (enc y) (enc a) then y else a) r) := by
  unfold PySem.W.minD
  induction rs generalizing r with
  | nil => rfl
  | cons b rs ih =>
    rw [List.map_cons, List.foldl_cons, List.foldl_cons, ← ih]
    congr 1
    split <;> rfl
end Wg
namespace Wg
open PySem PySem.Spec PyProof.Rows L2
/-- a for over enumerate(list), behind its argument -/
def FEl (K : PySem.W.Frag) (g : TG) (tb : TS) (D : Ends) (σ : L2.St) (vs : List V) (H1 : Hp) : Prop := ∃ a xs, vs = [.ref a] ∧ SqL K H1 a xs ∧ ∃ W : Nat → Nat → L2.St → Hp → Prop, (∃ m, W 0 m σ H1) ∧ ∀ i m σ H, W i m σ H →
  ((Ite K a).stop i H ∧ D.nx σ H) ∨ ((Ite K a).go i H ∧ ∃ N : L2.St → Hp → Prop, (∀ σ' H', N σ' H' → ∃ m', m' < m ∧ W (i + 1) m' σ' H') ∧ ∀ x H', (Ite K a).yld i H x H' → g x σ H' fun σ2 H2 => tb { D with nx := N, ct := N, bk := D.nx } σ2 H2)
theorem e_forEl {K : PySem.W.Frag} {ta : TA} {g : TG} {tb : TS} {D : Ends} {σ : L2.St} {H : Hp} : tFor (iEnum K ta) g tb D σ H ↔ ta σ H (FEl K g tb D σ) := Iff.rfl
theorem g_FEl {K : PySem.W.Frag} {g : TG} {tb : TS} {D : Ends} {σ : L2.St} {H1 : Hp} {a : Addr} {xs : List V} (Pv : Nat → L2.St → Hp → Prop) (h : H1 a = some (.lst xs)) (h0 : Pv 0 σ H1) (hl : ∀ i σ H, i ≤ xs.length → Pv i σ H → H a = some (.lst xs))
    (hs : ∀ i x σ H T H', xs[i]? = some x → Pv i σ H → H T = none → Keep [] H H' → H' T = some (.tup [.int (i : Nat), x]) → g (.ref T) σ H' fun σ2 H2 => tb { D with nx := Pv (i + 1), ct := Pv (i + 1), bk := D.nx } σ2 H2) (hd : ∀ σ H, Pv xs.length σ H → D.nx σ H) : FEl K g tb D σ [.ref a] H1 := by
  refine ⟨a, xs, rfl, lst_sq h, fun i m σ H => m = xs.length - i ∧ i ≤ xs.length ∧ Pv i σ H, ⟨xs.length, by simp, Nat.zero_le _, h0⟩, ?_⟩
  rintro i m σ H ⟨rfl, hi, p⟩
  have tu := lst_sq (K := K) (hl i σ H hi p)
  by_cases hlt : i < xs.length
  · refine .inr ⟨⟨xs, _, tu, List.getElem?_eq_getElem hlt⟩, Pv (i + 1), fun σ' H' p' => ⟨xs.length - (i + 1), by omega, rfl, hlt, p'⟩, fun x H' y => ?_⟩
    obtain ⟨T, u, rfl, nT, rfl, hu⟩ := y
    exact hs i u σ H T _ (hu xs tu) p nT (Keep.new nT) upd_same
  · have e : i = xs.length := by omega
    subst e
    exact .inl ⟨⟨xs, tu, Nat.le_refl _⟩, hd σ H p⟩
theorem g_truL {K : PySem.W.Frag} {p : Addr} {xs : List V} {H : Hp} {k : Bool} (h : H p = some (.lst xs)) (e : k = !xs.isEmpty) : TruV K (.ref p) H k := .inl ⟨xs, lst_sq h, e⟩
end Wg

/-! Wagon, part 16: list.remove of data; whiles. -/
namespace Wg
open PySem PySem.Spec PyProof.Rows L2
def uRemD (K : PySem.W.Frag) : V → List V → Hp → VK → Prop := fun x vs H Q => ∃ (l : Addr) (xs : List V) (y : V) (d : PyData) (ds : List PyData) (j : Nat), x = .ref l ∧ vs = [y] ∧ H l = some (.lst xs) ∧ DpAll K H xs ds ∧ Dp K H y d ∧
  PyData.plainAll ds = true ∧ d.plain = true ∧ d.depth ≤ 50 ∧ PySem.SeqAt.dataPlace ds d = some j ∧ Ch H l (.lst (xs.eraseIdx j)) (Q .non)
theorem mt_uRemD {X : Cx} (hu : X.A.units + 64 < cLine) : MtM X "list.remove" (uRemD X.K) := by
  intro pins s σ H x vs v us Q I rx rv h
  obtain ⟨l, xs, y, d, ds, j, rfl, rfl, hH, hds, hd, p1, p2, hdp, hj, q⟩ := h
  cases rx
  obtain ⟨u, rfl, ru⟩ := rv.one
  obtain ⟨z, its, n, r, hl, e⟩ := I.lstM hH
  obtain ⟨as, rs⟩ := Dp.readsAll I _ _ _ hds r
  obtain ⟨bs, rd⟩ := Dp.reads I _ _ _ hd ru
  have := Nat.min_le_right (PyData.depthAll ds) d.depth
  refine PySem.SeqAt.remove_list_data (j := j) ⟨_, e, rfl, n, rfl⟩ (by simpa using rs) rd p1 p2 (by omega) hj (by rw [List.size_toArray]; omega) ?_
  refine ⟨.non, _, I.lset (its' := its.eraseIdx j) (ys := xs.eraseIdx j) (t' := s.toks) hH e ?_ (r.eraseIdx j) ?_, rfl, q.at⟩
  · show its.toArray.eraseIdxIfInBounds j = (its.eraseIdx j).toArray
    rw [List.eraseIdxIfInBounds_toArray]
  · have := List.length_eraseIdx_le xs j
    omega
end Wg

/-! Wagon, part 17: tuple + tuple wherever they stand. -/
namespace Wg
open PySem PySem.Spec PyProof.Rows L2
def uAddQ (K : PySem.W.Frag) : R2 := fun x y H Q => ∃ a b xs ys, x = .ref a ∧ y = .ref b ∧ SqT K H a xs ∧ SqT K H b ys ∧ xs ≠ [] ∧ ys ≠ [] ∧ xs.length + ys.length ≤ sizeLine ∧ Mt H (xs ++ ys) Q
theorem op_uAddQ {X : Cx} : OpR X (binaryOp .Add) (uAddQ X.K) := by
  intro pins s σ H x y v u Q I rx ry h
  obtain ⟨a, b, xs, ys, rfl, rfl, ha, hb, e1, e2, z, q⟩ := h
  cases rx
  cases ry
  obtain ⟨its, r1, p1, _⟩ := I.tuple ha
  obtain ⟨its2, r2, p2, _⟩ := I.tuple hb
  refine HT.cat_tup p1 p2 (fun c => e1 (r1.nil_iff.mp c)) (fun c => absurd (r2.nil_iff.mp c) e2) (fun c => ?_) (by rw [← r1.length, ← r2.length]; exact z)
  exact mt_end (t' := s.toks) I (r1.append r2) (by rw [List.length_append]; exact z) q
end Wg

/-! Wagon, part 18: a comprehension of two fors; list.extend by a list or tuple. -/
namespace Wg
open PySem PySem.Spec PyProof.Rows L2

def CU2 (K : PySem.W.Frag) (g : TG) (tt : TT) (wi1 : TI) (g1 : TG) (tt1 : TT) (te : TE) (vs vs1 : List Nat) (σ : L2.St) (Q : VK) (x : V) (H1 : Hp) : Prop := tLc2 (iU K (tC x)) g tt wi1 g1 tt1 te vs vs1 σ H1 Q
theorem e_lc2U {K : PySem.W.Frag} {tl : TE} {g : TG} {tt : TT} {wi1 : TI} {g1 : TG} {tt1 : TT} {te : TE} {vs vs1 : List Nat} {σ : L2.St} {H : Hp} {Q : VK} : tLc2 (iU K tl) g tt wi1 g1 tt1 te vs vs1 σ H Q ↔ tl σ H (CU2 K g tt wi1 g1 tt1 te vs vs1 σ Q) := Iff.rfl
/-- [y for z in zs for y in f(z)], of texts; f(z) a fresh list -/
theorem g_C2 {K : PySem.W.Frag} {tl1 : TE} {σ : L2.St} {H1 : Hp} {Q : VK} {a : Addr} {i j : Nat} {vs vs1 : List Nat} (zs : List Str) (f : Str → List Str) (hx : H1 a = some (.lst (zs.map V.str)) ∨ Tup H1 a (zs.map V.str))
    (hw : ∀ v, wipe ((wipe σ vs).set i v) vs = wipe σ vs) (hw1 : ∀ v u, wipe ((wipe ((wipe σ vs).set i v) vs1).set j u) vs1 = wipe ((wipe σ vs).set i v) vs1) (hw2 : ∀ v, wipe ((wipe σ vs).set i v) vs1 = (wipe σ vs).set i v)
    (hj : ∀ v u, ((wipe ((wipe σ vs).set i v) vs1).set j (some u))[j]? = some (some u))
    (hl : ∀ ws : List Str, (∀ z ∈ ws, z ∈ zs) → ws.length ≤ zs.length → (ws.flatMap f).length < 1000) (hl1 : ∀ z ∈ zs, (f z).length < 1000)
    (hc : ∀ z ∈ zs, ∀ H3 (Q1 : VK), Keep [] H1 H3 → (∀ l H4, H3 l = none → Keep [] H3 H4 → H4 l = some (.lst ((f z).map V.str)) → Q1 (.ref l) H4) → tl1 ((wipe σ vs).set i (some (.str z))) H3 Q1)
    (hd : ∀ D H, H1 D = none → Keep [] H1 H → H D = some (.lst ((zs.flatMap f).map V.str)) → Q (.ref D) H) : CU2 K (gName i) tYes (iU K tl1) (gName j) tYes (tVar j) vs vs1 σ Q (.ref a) H1 := by
  have core : ∀ J : It, (∀ n H, n < zs.length → Keep [] H1 H → J.go n H) → (∀ n H x H', n < zs.length → Keep [] H1 H → J.yld n H x H' → x = .str (zs.getD n "") ∧ H' = H) → (∀ H, Keep [] H1 H → J.stop zs.length H) →
      ∀ D, H1 D = none → ∃ W : Nat → Nat → Hp → Prop, (∃ m, W 0 m (upd H1 D (.lst []))) ∧ ∀ n m H, W n m H →
  (J.stop n H ∧ Q (.ref D) H) ∨ (J.go n H ∧ ∃ Nx : Hp → Prop, (∀ H', Nx H' → ∃ m', m' < m ∧ W (n + 1) m' H') ∧ ∀ x H', J.yld n H x H' → gName i x (wipe σ vs) H' fun σ2 H2 => wipe σ2 vs = wipe σ vs ∧ tYes σ2 H2 fun b H3 =>
    if b = true then iU K tl1 σ2 H3 fun J1 H4 => ∃ W1 : Nat → Nat → Hp → Prop, (∃ m, W1 0 m H4) ∧ ∀ jj k H, W1 jj k H →
      (J1.stop jj H ∧ Nx H) ∨ (J1.go jj H ∧ ∃ Nx1 : Hp → Prop, (∀ H', Nx1 H' → ∃ k', k' < k ∧ W1 (jj + 1) k' H') ∧ ∀ x H', J1.yld jj H x H' → gName j x (wipe σ2 vs1) H' fun σ3 H5 => wipe σ3 vs1 = wipe σ2 vs1 ∧ tYes σ3 H5 fun b H6 =>
        if b = true then tVar j σ3 H6 fun y H7 => ∃ acc, H7 D = some (.lst acc) ∧ acc.length < sizeLine ∧ Nx1 (upd H7 D (.lst (acc ++ [y]))) else Nx1 H6)
    else Nx H3) := by
    intro J hgo hy hst D hD
    refine ⟨fun n m H => m = zs.length - n ∧ n ≤ zs.length ∧ Keep [] H1 H ∧ H D = some (.lst (((zs.take n).flatMap f).map V.str)), ⟨zs.length, by omega, by omega, Keep.new hD, upd_same⟩, ?_⟩
    rintro n m H ⟨rfl, hn, k, eD⟩
    by_cases hlt : n < zs.length
    · refine .inr ⟨hgo n H hlt k, fun H' => Keep [] H1 H' ∧ H' D = some (.lst (((zs.take (n + 1)).flatMap f).map V.str)), fun H' q => ⟨zs.length - (n + 1), by omega, rfl, hlt, q⟩, fun x H' y => ?_⟩
      obtain ⟨ex, eh⟩ := hy n H x H' hlt k y
      have hz : zs[n]? = some (zs.getD n "") := by rw [List.getD_eq_getElem?_getD, List.getElem?_eq_getElem hlt]; rfl
      rw [ex, eh]
      generalize zs.getD n "" = z at hz
      have hzm := List.mem_of_getElem? hz
      have htk : (zs.take (n + 1)).flatMap f = (zs.take n).flatMap f ++ f z := by rw [List.take_succ, hz, List.flatMap_append]; simp
      refine ⟨hw _, ?_⟩
      unfold tYes
      show (if true = true then _ else _)
      rw [if_pos rfl]
      refine hc z hzm H _ k fun l H4 nl k4 e4 => .inl ⟨l, _, rfl, lst_sq e4, ?_⟩
      have nDl : D ≠ l := ne_of_none eD nl
      refine ⟨fun jj kk H' => kk = (f z).length - jj ∧ jj ≤ (f z).length ∧ Keep [D] H4 H' ∧ H' D = some (.lst (((zs.take n).flatMap f ++ (f z).take jj).map V.str)), ⟨(f z).length, by omega, by omega, Keep.refl _ _, by rw [List.take_zero, List.append_nil]; exact k4 _ _ nin0 eD⟩, ?_⟩
      rintro jj kk H5 ⟨rfl, hjj, k5, e5⟩
      have el5 := k5 _ _ (nin1 nDl.symm) e4
      by_cases hlt2 : jj < (f z).length
      · have hy2 : (f z)[jj]? = some (f z)[jj] := List.getElem?_eq_getElem hlt2
        have hym : ((f z).map V.str)[jj]? = some (.str (f z)[jj]) := by rw [List.getElem?_map, hy2]; rfl
        refine .inr ⟨⟨_, _, lst_sq el5, hym⟩, fun H' => Keep [D] H4 H' ∧ H' D = some (.lst (((zs.take n).flatMap f ++ (f z).take (jj + 1)).map V.str)), fun H' q => ⟨(f z).length - (jj + 1), by omega, rfl, hlt2, q⟩, fun x H' y => ?_⟩
        obtain ⟨e1, e2⟩ := y
        have e3 := e2 _ (lst_sq el5)
        rw [hym] at e3
        cases e3
        rw [e1]
        refine ⟨hw1 _ _, ?_⟩
        show (if true = true then _ else _)
        rw [if_pos rfl]
        refine ⟨_, hj _ _, _, e5, ?_, k5.trans Keep.set, ?_⟩
        · have h1 := hl (zs.take n) (fun w hw => List.mem_of_mem_take hw) (by rw [List.length_take]; omega)
          have h2 := hl1 z hzm
          rw [List.length_map, List.length_append, List.length_take]
          exact len_lt (by omega)
        · rw [upd_same, List.take_succ, hy2]
          simp only [List.map_append, Option.toList, List.map_cons, List.map_nil, List.append_assoc]
      · have e : jj = (f z).length := by omega
        subst e
        refine .inl ⟨⟨_, lst_sq el5, by rw [List.length_map]; exact Nat.le_refl _⟩, (k.trans k4).past k5 hD, ?_⟩
        rw [htk, e5, List.take_length]
    · have e : n = zs.length := by omega
      subst e
      rw [List.take_length] at eD
      exact .inl ⟨hst H k, hd D H hD k eD⟩
  have gt : ∀ {n : Nat}, n < zs.length → (zs.map V.str)[n]? = some (.str (zs.getD n "")) := fun h => by
    rw [List.getElem?_map, List.getD_eq_getElem?_getD, List.getElem?_eq_getElem h]; rfl
  rcases hx with hx | hx
  · refine .inl ⟨a, _, rfl, lst_sq hx, core (Itl K a) (fun n H h k => ⟨_, _, lst_sq (k _ _ nin0 hx), gt h⟩) (fun n H x H' h k y => ?_) fun H k => ⟨_, lst_sq (k _ _ nin0 hx), by rw [List.length_map]; exact Nat.le_refl _⟩⟩
    obtain ⟨e1, e2⟩ := y
    have := e2 _ (lst_sq (k _ _ nin0 hx))
    rw [gt h] at this
    cases this
    exact ⟨rfl, e1⟩
  · refine .inr (.inl ⟨a, _, rfl, hx.sq, core (Itt K a) (fun n H h k => ⟨_, _, (hx.keep k nin0).sq, gt h⟩) (fun n H x H' h k y => ?_) fun H k => ⟨_, (hx.keep k nin0).sq, by rw [List.length_map]; exact Nat.le_refl _⟩⟩)
    obtain ⟨e1, e2⟩ := y
    have := e2 _ (hx.keep k nin0).sq
    rw [gt h] at this
    cases this
    exact ⟨rfl, e1⟩
/-- a comprehension within a comprehension, that reads no name of what is around it but by cells that are there -/
theorem blkOk_any {N : List Str} {sc scope : Scope} {own : List (Str × Nat)} (h : blkC N { kind := .function, names := [], isGenerator := false, isCoroutine := false } scope own = true) : BlkOk N sc scope own := by
  have b := blkOk_by h
  exact ⟨b.kind, b.uniq, b.ix, fun y hy e => by rcases b.free y hy e with z | z <;> simp at z, b.own⟩
section
variable {X : Cx}
/-- a proper slice of a tuple wherever it stands -/
def uSlQ (K : PySem.W.Frag) : V → Option Int → Option Int → Hp → VK → Prop := fun x lo hi H Q => ∃ a xs, x = .ref a ∧ SqT K H a xs ∧ ¬ (HT.sIx xs.length 0 lo = 0 ∧ HT.sIx xs.length xs.length hi = xs.length) ∧ Mt H (cutV xs lo hi) Q
theorem sl_uQ : SlR X (uSlQ X.K) := by
  intro pins s σ H x v vl vu lo hi sl Q I rx hs pl pu h
  obtain ⟨a, xs, rfl, hx, c, q2⟩ := h
  cases rx
  obtain ⟨its, r, ht, hz⟩ := I.tuple hx
  have hlen : its.toArray.size = xs.length := by
    rw [List.size_toArray]
    exact r.length.symm
  refine ⟨"tuple", _, PyProof.Rows.slot_tuple_getitem.lookup, ht.typeIs, ?_⟩
  refine HT.getItem_tuple_cut ht hs pl pu (by rw [hlen]; exact c) ?_ (by rw [hlen]; exact hz)
  rw [hlen]
  exact mt_end (t' := s.toks) I ((r.drop (HT.sIx xs.length 0 lo)).take (HT.sIx xs.length xs.length hi - HT.sIx xs.length 0 lo)) (Nat.le_trans (cutV_length xs lo hi) hz) q2
def uExtT : V → List V → Hp → VK → Prop := fun x vs H Q => ∃ l b xs zs, x = .ref l ∧ vs = [.ref b] ∧ H l = some (.lst xs) ∧ (H b = some (.lst zs) ∨ Tup H b zs) ∧ xs.length + zs.length ≤ sizeLine ∧ Ch H l (.lst (xs ++ zs)) (Q .non)
theorem mt_uExtT : MtM X "list.extend" uExtT := by
  intro pins s σ H x vs v us Q I rx rv h
  obtain ⟨l, b, xs, zs, e1, e2, e3, e4, e5, q⟩ := h
  rcases e4 with e4 | e4
  · exact mt_extend pins s σ H x vs v us Q I rx rv ⟨l, b, xs, zs, e1, e2, e3, e4, e5, q.at⟩
  · subst e1 e2
    cases rx
    obtain ⟨u, rfl, ru⟩ := rv.one
    cases ru
    obtain ⟨z, its, n, r, hl, e⟩ := I.lstM e3
    obtain ⟨its2, n2, r2, hl2, e2⟩ := Tup.obj I e4
    have l2 := r2.length
    have hsz : its.toArray.size + its2.toArray.size ≤ sizeLine := by rw [List.size_toArray, List.size_toArray]; omega
    have hlong : ¬ (!its.toArray.isEmpty && Builtin.List.listTooLong (its.toArray.size + its2.toArray.size)) = true := by
      rw [notLongL hsz, Bool.and_false]
      exact Bool.false_ne_true
    refine call_meets F.slot_list_extend ⟨_, e, rfl⟩ F.entry_list_extend (F.args_list_extend_2 _ _)
      (AutoSeq1.list_extend_list_tuple_0 l its.toArray n b its2.toArray n2 hlong (by rw [List.size_toArray]; omega) (by omega)) ⟨e, e2, ?_⟩
    refine ⟨.non, _, I.lset (its' := its ++ its2) e3 e (by simp) (r.append r2) ?_, rfl, q.at⟩
    rw [List.length_append]
    omega
end
theorem g_extT {l b : Addr} {xs zs : List V} {H : Hp} {Q : VK} (h : H l = some (.lst xs)) (e : Tup H b zs) (z : xs.length + zs.length ≤ 1000) (q : ∀ H', Keep [l] H H' → H' l = some (.lst (xs ++ zs)) → Q .non H') : uExtT (.ref l) [.ref b] H Q := ⟨l, b, xs, zs, rfl, rfl, h, .inr e, len_le (by omega), q⟩
end Wg

/-! Wagon, part 19: xs[::k], k 1 or -1, of a list. -/
namespace Wg
open PySem PySem.Spec PyProof.Rows L2
theorem pick_one (items : Array Value) : slicePick items none none (some 1) = items := by
  have h : slicePick items none none (some 1) = slicePick items none none none := rfl
  rw [h, show items = items.toList.toArray by simp, slicePick_cut]
  simp [HT.sIx]
  rw [List.take_of_length_le (by simp)]
section
variable {X : Cx}
def tStepL (K : PySem.W.Frag) (te ts : TE) : TE := fun σ H Q => te σ H fun x H1 => tPart ts σ H1 fun o H2 => ∃ a xs v, x = .ref a ∧ SqL K H2 a xs ∧ o = some v ∧ (v = 1 ∨ v = -1) ∧ ∀ p, H2 p = none → Q (.ref p) (upd H2 p (.lst (if v = 1 then xs else xs.reverse)))
theorem pe_stepL {e es : Expr} {te ts : TE} {p3 pos : Pos} (he : PE X e te) (hs : PE X es ts) : PE X (.Subscript e (.Slice none none (some es) p3) pos) (tStepL X.K te ts) := by
  refine ⟨fun pins s σ H Q I h => ?_⟩
  refine Subscript_ (thn (he.run pins s σ H _ I h) fun v s1 ⟨x, H1, I1, r1, q1⟩ => ?_)
  have hst : PO X (some es) (tPart ts) := po_some hs
  refine wpAny_Slice (thn (po_none.run pins s1 σ H1 (fun o H2 => o = none ∧ H2 = H1) I1 ⟨rfl, rfl⟩) fun vl s2 ⟨l, H2, I2, pl, el, e2⟩ => ?_)
  subst el e2
  refine thn (po_none.run pins s2 σ H2 (fun o H3 => o = none ∧ H3 = H2) I2 ⟨rfl, rfl⟩) fun vu s3 ⟨u, H3, I3, pu, eu, e3⟩ => ?_
  subst eu e3
  refine thn (hst.run pins s3 σ H3 _ I3 q1) fun vs s4 ⟨o, H4, I4, ps, q4⟩ => ?_
  obtain ⟨a, xs, w, ex, hx, eo, hw, q⟩ := q4
  subst ex eo
  cases r1
  have I5 : Inv X pins σ H4 { s4 with heap := s4.heap.push { cls := .type "slice", data := .fields #[vl, vu, vs] } } := I4.kept (t' := s4.toks) fun b ob q => Heap.get?_push_of_some _ q
  obtain ⟨its, r, ht, hz⟩ := I5.list hx
  have hlen := r.length
  show wpAny (model X.prog X.w) X.A (subscriptTail e (.Slice none none (some es) p3) (.ref a) (.ref s4.heap.objs.size)) (EP X pins σ Q) X.xe { s4 with heap := s4.heap.push { cls := .type "slice", data := .fields #[vl, vu, vs] } }
  refine tail_any (ops := [.ref a, .ref s4.heap.objs.size]) ht.isList.typeIs (PySem.slot_list_getitem.lookup) ?_ (by with_unfolding_all rfl)
  refine wpAny_getItem_list_slice ht.isList (Heap.IsSliceOf.new _ vl vu vs) pl pu ps (by rcases hw with rfl | rfl <;> decide) ?_ (by rw [List.size_toArray]; omega)
  rcases hw with rfl | rfl
  · rw [pick_one]
    refine ⟨.ref _, _, I5.laid (t' := s4.toks) (o := .lst xs) (fun b ob q => Heap.get?_push_of_some _ q) (Nat.le_refl _) ?_, rfl, q _ (I5.hok.fresh (Nat.le_refl _))⟩
    exact ⟨hz, _, 0, r, Heap.get?_push_size _ rfl⟩
  · rw [PySem.W.krv_pick]
    refine ⟨.ref _, _, I5.laid (t' := s4.toks) (o := .lst xs.reverse) (fun b ob q => Heap.get?_push_of_some _ q) (Nat.le_refl _) ?_, rfl, q _ (I5.hok.fresh (Nat.le_refl _))⟩
    exact ⟨by rw [List.length_reverse]; exact hz, _, 0, r.reverse, Heap.get?_push_size _ rfl⟩
end
theorem e_stepL {K : PySem.W.Frag} {te ts : TE} {σ : L2.St} {H : Hp} {Q : VK} : tStepL K te ts σ H Q ↔ te σ H fun x H1 => ts σ H1 fun y H2 => ∃ i, y = .int i ∧ ∃ a xs v, x = .ref a ∧ SqL K H2 a xs ∧ some i = some v ∧ (v = 1 ∨ v = -1) ∧ ∀ p, H2 p = none → Q (.ref p) (upd H2 p (.lst (if v = 1 then xs else xs.reverse))) := Iff.rfl
end Wg

/-! Wagon, part 20: a for over zip of two tuples  -/
namespace Wg
open PySem PySem.Spec PyProof.Rows L2 RZ
def FZ (K : PySem.W.Frag) (g : TG) (tb : TS) (D : Ends) (σ : L2.St) (vs : List V) (H1 : Hp) : Prop := tFor (iZipA K (fun _ H Q => Q vs H)) g tb D σ H1
theorem e_forZ {K : PySem.W.Frag} {ta : TA} {g : TG} {tb : TS} {D : Ends} {σ : L2.St} {H : Hp} : tFor (iZipA K ta) g tb D σ H ↔ ta σ H (FZ K g tb D σ) := Iff.rfl
theorem g_FZ {K : PySem.W.Frag} {g : TG} {tb : TS} {D : Ends} {σ : L2.St} {H1 : Hp} {a b : Addr} {xs ys : List V} (Pv : Nat → L2.St → Hp → Prop) (ha : Tup H1 a xs) (hb : Tup H1 b ys) (hl2 : xs.length = ys.length) (h0 : Pv 0 σ H1) (hl : ∀ i σ H, i ≤ xs.length → Pv i σ H → Tup H a xs ∧ Tup H b ys)
    (hs : ∀ i x y σ H T H', xs[i]? = some x → ys[i]? = some y → Pv i σ H → H T = none → Keep [] H H' → H' T = some (.tup [x, y]) → g (.ref T) σ H' fun σ2 H2 => tb { D with nx := Pv (i + 1), ct := Pv (i + 1), bk := D.nx } σ2 H2) (hd : ∀ σ H, Pv xs.length σ H → D.nx σ H) : FZ K g tb D σ [.ref a, .ref b] H1 := by
  refine ⟨a, b, xs, ys, rfl, .inr ⟨ha.sq, hb.sq, fun i m σ H => m = xs.length - i ∧ i ≤ xs.length ∧ Pv i σ H, ⟨xs.length, by simp, Nat.zero_le _, h0⟩, ?_⟩⟩
  rintro i m σ H ⟨rfl, hi, p⟩
  obtain ⟨ta, tb'⟩ := hl i σ H hi p
  by_cases hlt : i < xs.length
  · have hx := List.getElem?_eq_getElem hlt
    have hy := List.getElem?_eq_getElem (show i < ys.length by omega)
    refine .inr ⟨⟨xs, ys, _, _, ta.sq, tb'.sq, hx, hy⟩, Pv (i + 1), fun σ' H' p' => ⟨xs.length - (i + 1), by omega, rfl, hlt, p'⟩, fun x H' y => ?_⟩
    obtain ⟨T, x', y', rfl, nT, rfl, f1, f2⟩ := y
    exact hs i x' y' σ H T _ (f1 xs ta.sq) (f2 ys tb'.sq) p nT (Keep.new nT) upd_same
  · have e : i = xs.length := by omega
    subst e
    exact .inl ⟨⟨xs, ys, ta.sq, tb'.sq, .inl (Nat.le_refl _)⟩, hd σ H p⟩
end Wg

/-! Wagon, part 21: xs[a:b] = ys. -/
namespace Wg
open PySem PySem.Spec PyProof.Rows L2
section
variable {X : Cx}
def gSli (to tl th : TE) : TG := fun v σ H R => to σ H fun x H1 => tl σ H1 fun i H2 => th σ H2 fun j H3 => ∃ l b xs ys a c, x = .ref l ∧ v = .ref b ∧ i = .int a ∧ j = .int c ∧ H3 l = some (.lst xs) ∧ H3 b = some (.lst ys) ∧ l ≠ b ∧ 0 ≤ a ∧ a ≤ c ∧ c ≤ xs.length ∧ xs.length + ys.length ≤ sizeLine ∧
  Ch H3 l (.lst (xs.take a.toNat ++ ys ++ xs.drop c.toNat)) (R σ)
theorem pg_sli {o lo hi : Expr} {to tl th : TE} {p2 pos : Pos} (ho : PE X o to) (hl : PE X lo tl) (hh : PE X hi th)
    (ha : ∀ v, assign (.Subscript o (.Slice (some lo) (some hi) none p2) pos) X.env v = (do
      let ov ← holding [v] (eval o X.env)
      let iv ← holding [v, ov] (eval (.Slice (some lo) (some hi) none p2) X.env)
      standAt pos
      holding [v, ov, iv] (setItem ov iv v)
      release [iv, v, ov] []) := by intro _; rfl) : PG X (.Subscript o (.Slice (some lo) (some hi) none p2) pos) (gSli to tl th) := by
  refine ⟨fun pins s σ H v u Q I r h => ?_⟩
  rw [ha]
  refine wpAny_bind (wpAny_holding (thn (ho.run pins s σ H _ I h) fun ov s1 ⟨x, H1, I1, r1, q1⟩ => ?_))
  refine wpAny_bind (wpAny_holding ?_)
  refine wpAny_Slice ?_
  rw [evalPart_some, evalPart_some, evalPart_none]
  refine thn (hl.run pins s1 σ H1 _ I1 q1) fun vl s2 ⟨i, H2, I2, r2, q2⟩ => thn (hh.run pins s2 σ H2 _ I2 q2) fun vu s3 ⟨j, H3, I3, r3, q3⟩ => ?_
  refine wpAny_pure ?_
  obtain ⟨l, b, xs, ys, a, c, rfl, rfl, rfl, rfl, e1, e2, ne, h0, hac, hc, hz, q⟩ := q3
  cases r1
  cases r
  have I4 : Inv X pins σ H3 { s3 with heap := s3.heap.push { cls := .type "slice", data := .fields #[vl, vu, .none] } } := I3.kept (t' := s3.toks) fun b ob q => Heap.get?_push_of_some _ q
  refine wpAny_bind (wpAny_standAt (wpAny_bind (wpAny_holding (set_slice I4 e1 e2 ne (Heap.IsSliceOf.new ..) r2 r3 h0 hac hc hz fun s' I5 => ?_))))
  exact wpAny_release ⟨σ, _, I5, q.at⟩
end
end Wg

/-! Wagon, part 22: min(xs, default=None) of a list of ints. -/
namespace Wg
open PySem PySem.Spec PyProof.Rows L2
section
variable {X : Cx}
def tMinN (K : PySem.W.Frag) (ta : TE) : TE := fun σ H Q => ta σ H fun x H1 => ∃ a ns, x = .ref a ∧ SqL K H1 a (ns.map V.int) ∧ (ns = [] → Q .non H1) ∧ ∀ m, m ∈ ns → (∀ y, y ∈ ns → m ≤ y) → Q (.int m) H1
theorem pe_minN {a : Expr} {ta : TE} {j : Nat} {p p2 p3 pos : Pos} (hc : X.calm = true) (hu : X.A.units + 64 < cLine) (hg : Gl X "min") (hm : X.mg "min" = none) (ha : PE X a ta)
    (he : backTo pos (starEach [a] X.env) = (false, eval a X.env) :: backTo pos (starEach [] X.env) := by rfl) :
    PE X (.Call (.Name "min" p) [a] [⟨some "default", .Constant .none j p2, p3⟩] pos) (tMinN X.K ta) := by
  refine ⟨fun pins s σ H Q I h => ?_⟩
  refine wpAny_Call_Name_kw (ld_blt I hg hm (show bootBuiltins "min" = some (.builtin "min") by decide +kernel) ?_)
  refine PyProof.Rows.callWith_kw ?_ he (by rw [he]; rfl)
  rw [he]
  refine Calls.spliced_cons (thn (ha.run pins s σ H _ I h) fun v s1 ⟨x, H1, I1, r1, q1⟩ => ?_)
  refine Calls.spliced_nil ?_
  obtain ⟨l, ns, rfl, hs, q0, q⟩ := q1
  cases r1
  obtain ⟨its, rv, hl, hz⟩ := I1.list hs
  refine PyProof.Rows.kws_cons (Constant_none (PyProof.Rows.kws_nil ?_))
  show wpAny _ _ (call (.builtin "min") [Value.ref l] [(Str.ofString "default", Value.none)]) _ _ _
  have dps : ∀ ns : List Int, DpAll X.K H1 (ns.map V.int) (ns.map .int) := fun ns => by
    induction ns with
    | nil => exact .nil
    | cons n ns ih => exact .cons (.int n) ih
  obtain ⟨as, hr⟩ := Dp.readsAll I1 _ _ _ (dps ns) rv
  have al : PySem.W.AlikeAll (ns.map .int) := by
    refine ⟨fun x hx y hy => ?_, fun x hx => ?_⟩
    · obtain ⟨i, _, rfl⟩ := List.mem_map.mp hx
      obtain ⟨j, _, rfl⟩ := List.mem_map.mp hy
      rfl
    · obtain ⟨i, _, rfl⟩ := List.mem_map.mp hx
      exact fun z => nomatch z
  have dp : PyData.depthAll (ns.map .int) = 0 := by
    clear hr al dps q0 q hs rv hz
    induction ns with
    | nil => simp [PyData.depthAll]
    | cons n ns ih => simp [PyData.depthAll, PyData.depth, ih]
  refine PySem.W.min_list_default (I1.ok.hd hc) hl.isList (as := as) hr al (by omega) (fun e h' tk hk => ?_) fun y ys i v h' tk bs e hv rd hk => ?_
  · exact ⟨.non, H1, I1.kept hk, rfl, q0 (List.map_eq_nil_iff.mp e)⟩
  · cases ns with
    | nil => cases e
    | cons n ns =>
      rw [List.map_cons] at e
      cases e
      rw [PySem.W.minD_ints] at rd
      obtain ⟨t, rfl⟩ : ∃ t, v = .int (ns.foldl min n) t := by
        cases rd
        exact ⟨_, rfl⟩
      have h1 : ∀ (ns : List Int) (n : Int), ns.foldl min n ∈ n :: ns ∧ ∀ y ∈ n :: ns, ns.foldl min n ≤ y := by
        intro ns
        induction ns with
        | nil => intro n; exact ⟨List.mem_singleton.mpr rfl, fun y hy => by rw [List.mem_singleton.mp hy]; exact Int.le_refl _⟩
        | cons m ns ih =>
          intro n
          obtain ⟨a, b⟩ := ih (min n m)
          rw [List.foldl_cons]
          have c := b (min n m) (List.mem_cons_self)
          refine ⟨?_, fun y hy => ?_⟩
          · rcases List.mem_cons.mp a with a | a
            · rw [a]
              by_cases hle : n ≤ m
              · rw [Int.min_eq_left hle]; simp
              · rw [Int.min_eq_right (by omega)]; simp
            · simp [a]
          · rcases List.mem_cons.mp hy with rfl | hy
            · exact Int.le_trans c (Int.min_le_left _ _)
            · rcases List.mem_cons.mp hy with rfl | hy
              · exact Int.le_trans c (Int.min_le_right _ _)
              · exact b y (List.mem_cons_of_mem _ hy)
      exact ⟨.int _, H1, I1.kept hk, ⟨t, rfl⟩, q _ (h1 ns n).1 (h1 ns n).2⟩
end
end Wg

/-! Wagon, part 23: a comprehension over enumerate(tuple); the order of tuples that begin with numbers. -/
namespace Wg
open PySem PySem.Spec PyProof.Rows L2
def CEn (g : TG) (tt : TT) (te : TE) (vs : List Nat) (σ : L2.St) (Q : VK) (ws : List V) (H1 : Hp) : Prop := ∃ a xs, ws = [.ref a] ∧ Tup H1 a xs ∧ CB (Itn a xs) g tt te vs σ Q H1
theorem e_lcEn {K : PySem.W.Frag} {ta : TA} {g : TG} {tt : TT} {te : TE} {vs : List Nat} {σ : L2.St} {H : Hp} {Q : VK} : tLc (iEnumU K ta) g tt te vs σ H Q ↔ ta σ H (CEn g tt te vs σ Q) := Iff.rfl
theorem g_CEn {K : PySem.W.Frag} {g : TG} {tt : TT} {te : TE} {vs : List Nat} {σ : L2.St} {Q : VK} {H1 : Hp} {a : Addr} {us : List V} (ha : Tup H1 a us) (P : Nat → Hp → List V → Prop)
    (p0 : ∀ D H2, H1 D = none → Keep [] H1 H2 → P 0 H2 [])
    (ps : ∀ D i x H acc (R : VK) (R0 : Hp → Prop) T H', H1 D = none → us[i]? = some x → Keep [] H1 H' → H' D = some (.lst acc) → Keep [] H H' → P i H acc → H' T = some (.tup [.int (i : Nat), x]) →
      (∀ z H4, Keep [] H' H4 → acc.length < sizeLine → (∀ H5, Keep [D] H4 H5 → P (i + 1) H5 (acc ++ [z])) → R z H4) → (∀ H3, Keep [] H' H3 → P (i + 1) H3 acc → R0 H3) →
      g (.ref T) (wipe σ vs) H' fun σ2 H2 => wipe σ2 vs = wipe σ vs ∧ tt σ2 H2 fun bb H3 => if bb = true then te σ2 H3 R else R0 H3)
    (pd : ∀ D H acc, H1 D = none → Keep [] H1 H → H D = some (.lst acc) → P us.length H acc → Q (.ref D) H) : CEn g tt te vs σ Q [.ref a] H1 := by
  refine ⟨a, us, rfl, ha, fun D hD => ?_⟩
  refine ⟨fun i m H => m = us.length - i ∧ i ≤ us.length ∧ Keep [] H1 H ∧ ∃ acc, H D = some (.lst acc) ∧ P i H acc, ⟨us.length, by omega, by omega, Keep.new hD, [], upd_same, p0 D _ hD (Keep.new hD)⟩, ?_⟩
  rintro i m H ⟨rfl, hi, k, acc, eD, p⟩
  have ta := ha.keep k nin0
  by_cases hlt : i < us.length
  · have hx := List.getElem?_eq_getElem hlt
    refine .inr ⟨⟨hlt, ta⟩, fun H' => i + 1 ≤ us.length ∧ Keep [] H1 H' ∧ ∃ acc, H' D = some (.lst acc) ∧ P (i + 1) H' acc, fun H' q => ⟨us.length - (i + 1), by omega, rfl, q⟩, fun v H' y => ?_⟩
    obtain ⟨T, x', rfl, hT, rfl, f1⟩ := y
    have kn : Keep [] H (upd H T (.tup [.int (i : Nat), x'])) := Keep.new hT
    refine ps D i x' H acc _ _ T _ hD f1 (k.trans kn) (kn _ _ nin0 eD) kn p upd_same (fun z H4 k4 hz q => ⟨acc, k4 _ _ nin0 (kn _ _ nin0 eD), hz, hlt, (k.trans (kn.trans k4)).past Keep.set hD, _, upd_same, q _ Keep.set⟩) fun H3 k3 q => ⟨hlt, k.trans (kn.trans k3), acc, k3 _ _ nin0 (kn _ _ nin0 eD), q⟩
  · have e : i = us.length := by omega
    subst e
    exact .inl ⟨⟨rfl, ta⟩, pd D H acc hD k eD p⟩
theorem lt_of_head {a b : Int} {r r' : List PyData} (h : a < b) : PySem.W.dataLt (.tuple (.int a :: r)) (.tuple (.int b :: r')) = true := by
  unfold PySem.W.dataLt
  simp only [PySem.W.keyToks, PySem.W.keyToksAll, List.cons_append, List.nil_append]
  simp [PyProof.Rows.lexLt, PyProof.Rows.itemOrd]
  refine .inr ⟨by decide, .inl ?_⟩
  simp [PyProof.Rows.itemLt, h]
theorem nlt_of_head {a b : Int} {r r' : List PyData} (h : b < a) : PySem.W.dataLt (.tuple (.int a :: r)) (.tuple (.int b :: r')) = false := by
  have h1 := lt_of_head (r := r') (r' := r) h
  cases e : PySem.W.dataLt (.tuple (.int a :: r)) (.tuple (.int b :: r')) with
  | false => rfl
  | true =>
    have h2 := (PyProof.Rows.listOrd PyProof.Rows.itemOrd).trans (PySem.W.keyToks (.tuple (.int b :: r'))) (PySem.W.keyToks (.tuple (.int a :: r))) (PySem.W.keyToks (.tuple (.int b :: r'))) h1 e
    have h3 := (PyProof.Rows.listOrd PyProof.Rows.itemOrd).irrefl (PySem.W.keyToks (.tuple (.int b :: r')))
    exact Bool.noConfusion (h3.symm.trans h2)
end Wg

/-! Wagon, part 26: own classes: C(e, ..), o.m(e, ..), by promises of the kind Keeps. -/
namespace Wg
open PySem PySem.Spec PyProof.Rows L2
section
variable {X : Cx} {CX : CXT} {k : Nat} {C f : Addr} {fd : FuncData} {ps : List Str} {sp : Sp} {E : XK} {x m : Str} {p pos apos : Pos} {o e : Expr} {es : List Expr} {ta : TE} {t : TA}
/-- what a call of a class asks: two new places, the instance and its dict -/
def MadeAt (sp : Sp) (E : XK) (C : Addr) (vs : List V) (H : Hp) (Q : VK) : Prop :=
  ∀ i d, H i = none → H d = none → d ≠ i → sp (.ref i :: vs) (upd (upd H d (.own i)) i (.ins C d [])) (fun v H' => v = .non ∧ Q (.ref i) H') E
theorem made_go {pins : List (Addr × Obj)} {σ : L2.St} {H : Hp} {s : Shared} {Q : VK} {us : List Value} {vs : List V}
    (M : L2.Mk X.K C f) (F : Keeps X.prog X.w X.K X.mg X.base CX k f fd ps sp) (hr : Rm (k + 1) X.A) (hb : Binds X.K fd ps []) (hx : Passes CX X E)
    (I : Inv X pins σ H s) (r : Vals vs us) (h : MadeAt sp E C vs H Q) : wpAny (model X.prog X.w) X.A (call (.ref C) us) (EP X pins σ Q) X.xe s := by
  let i : Addr := s.heap.objs.size + 1
  let d : Addr := s.heap.objs.size
  have g : sp (.ref i :: vs) _ _ _ := h i d (I.hok.fresh (Nat.le_succ _)) (I.hok.fresh (Nat.le_refl _)) (Nat.ne_of_lt (Nat.lt_succ_self _))
  have J := Inv.made (C := C) I
  have rr : Vals (V.ref i :: vs) (Value.ref i :: us) := .cons rfl r
  have len : ((Value.ref i :: us) ++ []).length = ps.length := by
    rw [List.append_nil, ← rr.length]
    exact F.len _ _ _ _ g
  have bd := hb _ (Value.ref i :: us) J.kIn len
  rw [List.append_nil] at bd
  have go := F.run _ X.stack _ _ ⟨Value.ref i :: us, []⟩ (Value.ref i :: us) _ _ E ⟨hr.rm.make C us [], hr.gd⟩ (J.env0.make C us []) bd rr g
  refine wpAny_call ?_
  refine make_map (f := f) I.kIn M.makes M.init (beq_iff_eq.mp M.fn) ?_
  refine codeAny_mono go fun res s' hq => ?_
  match res, hq with
  | .error u, hq => exact hx pins σ _ _ u s' J hq
  | .ok (.ret u), hq =>
    obtain ⟨v, H', J', rv, rfl, q⟩ := J.after hq
    exact ⟨rv, V.ref (s.heap.objs.size + 1), H', J', rfl, q⟩
  | .ok .next, hq => exact hq.elim
  | .ok .brk, hq => exact hq.elim
  | .ok .cont, hq => exact hq.elim
/-- C(e, ..), C an own class -/
def tNewC (sp : Sp) (E : XK) (C : Addr) (t : TA) : TE := fun σ H Q => t σ H fun vs H1 => MadeAt sp E C vs H1 Q
theorem pe_newC (M : L2.Mk X.K C f) (F : Keeps X.prog X.w X.K X.mg X.base CX k f fd ps sp) (hr : Rm (k + 1) X.A) (hg : Gl X x) (hm : X.mg x = some (.ref C)) (hb : Binds X.K fd ps []) (hx : Passes CX X E) (ha : PA X (e :: es) t)
    (hdb : (x == ("__debug__" : Str)) = false := by decide) (he : starEach (e :: es) X.env = (false, eval e X.env) :: starEach es X.env := by rfl) (hpl : (backTo pos (starEach es X.env)).any (·.1) = false := by rfl) :
    PE X (.Call (.Name x p) (e :: es) [] pos) (tNewC sp E C t) := by
  constructor
  intro pins s σ H Q I h
  have args := ha.run pos pins s σ H _ I h
  refine wpAny_Call_Name_kw (ld_glob I hg hm (PySem.W.callWith_K (h₀ := X.base) I.ok.mod.kin M.kp (thn args fun us s1 hh => ?_) he hpl) hdb)
  obtain ⟨vs, H1, J, r, q⟩ := hh
  exact ⟨J.kIn, made_go M F hr hb hx J r q⟩
/-- o.m(e, ..), m a method of an own class -/
def tMth (C : Addr) (m : Str) (sp : Sp) (E : XK) (ta : TE) (t : TA) : TE := fun σ H Q => ta σ H fun x H1 => ∃ a d fs, x = .ref a ∧ H1 a = some (.ins C d fs) ∧ fs.lookup m = none ∧ t σ H1 fun vs H2 => sp (x :: vs) H2 Q E
theorem pe_mth {pl : Sem Bool} (ho : PE X o ta) (c : Cls X.K C) (hm : Meth X.K C m f) (F : Keeps X.prog X.w X.K X.mg X.base CX k f fd ps sp) (hr : Rm k X.A) (hb : Binds X.K fd ps []) (hx : Passes CX X E) (ha : PA X (e :: es) t)
    (hst : starEach (e :: es) X.env = (false, eval e X.env) :: starEach es X.env := by rfl) (hpl : (backTo pos (starEach es X.env)).any (·.1) = false := by rfl)
    (ht : eval (.Call (.Attribute o m apos) (e :: es) [] pos) X.env = (do
      let ov ← eval o X.env
      standAt apos.atName
      let (f, first) ← holding [ov] (getMethod ov m pl)
      callWith pos f first (backTo pos (starEach (e :: es) X.env)) (backToKw pos (keywordEach [] X.env))) := by rfl) :
    PE X (.Call (.Attribute o m apos) (e :: es) [] pos) (tMth C m sp E ta t) := by
  constructor
  intro pins s σ H Q I h
  have self := ho.run pins s σ H _ I h
  refine PySem.W.methodCall_KW (pl := pl) (thn self fun u s1 hh => ?_) ht
  obtain ⟨y, H1, J, ry, a, d, fs, rfl, ea, l, q⟩ := hh
  cases ry
  have args := ha.run pos pins s1 σ H1 _ J q
  refine getmeth_ok J ea c hm l (PySem.W.callWith_K (first := [.ref a]) (h₀ := X.base) I.ok.mod.kin hm.kp (thn args fun us s2 hh => ?_) hst hpl)
  obtain ⟨vs, H2, J2, r, q2⟩ := hh
  exact ⟨J2.kIn, go_fn (us := .ref a :: us) (vs := .ref a :: vs) F hr hb hx J2 (.cons rfl r) q2⟩
end
end Wg

/-! Wagon, part 27: d.update(e) of two dicts; methods by qualified names. -/
namespace Wg
open PySem PySem.Spec PyProof.Rows L2
section
variable {X : Cx}
def uUpd : V → List V → Hp → VK → Prop := fun x vs H Q => ∃ a b kvs more, x = .ref a ∧ vs = [.ref b] ∧ a ≠ b ∧ H a = some (.dK kvs) ∧ H b = some (.dK more) ∧ kvs.length + more.length ≤ sizeLine ∧ Ch H a (.dK (mergeK kvs more)) (Q .non)
theorem mt_uUpd : MtR X "dict.update" uUpd := by
  intro pins s σ H x vs v us Q I rx rv h
  obtain ⟨a, b, kvs, more, rfl, rfl, ne, ha, hb, few, q⟩ := h
  cases rx
  obtain ⟨u, rfl, ru⟩ := vals1 rv
  obtain rfl : u = Value.ref b := ru
  obtain ⟨z1, y1, ws, r1, d1⟩ := dk_of I.hok ha
  obtain ⟨z2, y2, ms, r2, d2⟩ := dk_of I.hok hb
  refine call_meetsIn PySem.F.slot_dict_update d1.typeIs PySem.F.entry_dict_update (PySem.F.args_dict_update_2 _ _) (meets_dict_update (mixKind X.prog X.w) a b ne y2) ⟨ws, ms, d1, d2, by rw [← r1.length, ← r2.length]; exact few, fun h2 dd _ same => ?_⟩
  have fits : (mergeK kvs more).length ≤ sizeLine := Nat.le_trans (length_mergeK more kvs) few
  have there : ∃ o, h2.get? a = some o := let ⟨o, _, _, ho, _⟩ := dd; ⟨o, ho⟩
  exact ⟨.non, upd H a (.dK (mergeK kvs more)), d_write (t' := s.toks) I (by rw [ha]; trivial) same there (dk_new fits y1 (r2.merge r1) dd), rfl, q.at⟩
end
structure FnM (K : PySem.W.Frag) (x qual : Str) (st : Stmt) (f : Addr) (fd : FuncData) (ps : List Str) : Prop where
  fn : Fun K x qual st f fd
  b : Binds K fd ps []
end Wg

/-! Wagon, part 28: a comprehension within a comprehension that reads names of it. -/
namespace Wg
open PySem PySem.Spec PyProof.Rows L2
theorem rel_seen {f : NameKind → Str → NameKind} (hf : ∀ k x, k = .cell ∨ k = .free → f k x = .cell ∨ f k x = .free) : ∀ {l : List (Str × NameKind)} {x : Str}, l.lookup x = some .cell ∨ l.lookup x = some .free →
    (l.map fun p => (p.1, f p.2 p.1)).lookup x = some .cell ∨ (l.map fun p => (p.1, f p.2 p.1)).lookup x = some .free
  | [], _, h => by simp at h
  | (n, k) :: l, x, h => by
    rw [List.map_cons, List.lookup_cons]
    rw [List.lookup_cons] at h
    cases e : x == n with
    | true =>
      rw [e] at h
      simp only [Option.some.injEq] at h
      have := hf k n h
      simpa using this
    | false =>
      rw [e] at h
      exact rel_seen hf h
theorem blkOk_in {N : List Str} {sc scope : Scope} {env : Env} {own : List (Str × Nat)} (h : blkC N sc scope own = true) : BlkOk N (relabel sc env) scope own := by
  have b := blkOk_by h
  refine ⟨b.kind, b.uniq, b.ix, fun y hy e => ?_, b.own⟩
  have := rel_seen (f := fun k n => if (k == NameKind.free && env.scope.kind == .function && env.kindOf n == some .cell) then .cell else k) (fun k x h => by
    split
    · exact .inl rfl
    · exact h) (b.free y hy e)
  have eq : (relabel sc env).names = sc.names.map fun p => (p.1, if (p.2 == NameKind.free && env.scope.kind == .function && env.kindOf p.1 == some .cell) then NameKind.cell else p.2) := by
    unfold relabel
    refine List.map_congr_left fun p _ => ?_
    obtain ⟨n, k⟩ := p
    show (if _ then _ else _) = _
    split <;> rfl
  rw [eq]
  exact this
end Wg

/-! Wagon, part 29: displays with [*xs, y]: HandS.Star; in, not in over data: HandS.Deep. -/
namespace Wg
open PySem PySem.Spec PyProof.Rows L2
theorem un65 {k : Nat} {A : Around} (hr : Rm k A) : A.units + 65 < cLine := by
  have := hr.rm.un
  omega
theorem g_FR2 {g : TG} {tb : TS} {D : Ends} {σ : L2.St} {H1 : Hp} {i0 j : Int} (b1 : -(2 ^ 62) ≤ i0) (b2 : i0 < 2 ^ 62) (b3 : -(2 ^ 62) ≤ j) (b4 : j < 2 ^ 62) (h : Loop (j - i0).toNat (fun i => .int (i0 + (i : Nat))) g tb D σ H1) : FR2 g tb D σ [.int i0, .int j] H1 := by
  obtain ⟨Pv, p0, ps, pd⟩ := h
  exact ⟨i0, j, rfl, ⟨b1, b2, b3, b4⟩, for_range (lo := i0) (n := (j - i0).toNat) Pv p0 (fun i σ H hi p => ps i σ H hi p) pd⟩
end Wg

/-! Wagon, part 30: all and any of a generator expression whose element is any expression. -/
namespace Wg
open PySem PySem.Spec PyProof.Rows L2

/-- the context of a generator expression's frame: it began at s; fp: its iterator's objects -/
abbrev gx (X : Cx) (s : Shared) (H : Hp) (ce : Env) (A : Around) (fp : List Addr) : Cx :=
  { X with s_0 := s, H_0 := H, env := ce, outer := X.stack, stack := ce :: X.stack, A := A, ex := fp, fn := fun _ => false, pn := [], xe := fun _ _ => False }
/-- the scope of a generator expression -/
structure GenOk (N : List Str) (sc scope : Scope) (own : List (Str × Nat)) : Prop where
  b : BlkOk N sc scope own
  noc : ∀ y ∈ scope.names, y.2 ≠ .cell
  dot : scope.names.lookup (".0" : Str) = some NameKind.local
  co : scope.isCoroutine = false
abbrev gEnv (X : Cx) (scope : Scope) (C : Addr) (code : Value) : Env := genEnv scope (cloFrom X.env.cells scope.names []) C code builtinsNs X.env
section
variable {X : Cx} {pins : List (Addr × Obj)} {σ : L2.St} {H : Hp} {s : Shared}
theorem gen_free {scope : Scope} {own : List (Str × Nat)} (I : Inv X pins σ H s) (ok : GenOk X.N X.env.scope scope own) : ∀ y ∈ scope.names, y.2 = .free → ∃ c, X.env.cells.lookup y.1 = some c := fun y hy fr =>
  (ok.b.free y hy fr).elim (fun q => I.ok.has _ (.inl q)) fun q => I.ok.has _ (.inr q)
/-- the frame's beginning -/
theorem gen_start {scope : Scope} {own : List (Str × Nat)} {fp : List Addr} {code : Value} {A : Around} {m : Str → Option Value} {z : Shared} (I : Inv X pins σ H s) (ok : GenOk X.N X.env.scope scope own) (hN : X.N.Nodup)
    (hfp : ∀ b ∈ fp, FpOk X pins H b ∧ b < s.heap.objs.size) (hd : A.handled = none) (fr : A.frames = some (gEnv X scope s.heap.objs.size code :: X.stack)) (zo : z.os = s.os) (zb : AllBare z.gens) (zk : ∀ b o, s.heap.get? b = some o → z.heap.get? b = some o)
    (zc : z.heap.Ns s.heap.objs.size m) : Inv (gx X s H (gEnv X scope s.heap.objs.size code) A fp) [] (wipe σ (own.map (·.2))) H z := by
  have free := gen_free I ok
  have inClo : ∀ {y c}, (y, c) ∈ cloFrom X.env.cells scope.names [] → X.env.cells.lookup y = some c ∧ c < s.heap.objs.size := fun {y c} hm => by
    rcases cloFrom_mem hm with q | ⟨q, rfl⟩
    · cases q
    · obtain ⟨c, hc⟩ := free _ q rfl
      rw [hc]
      obtain ⟨w, x⟩ := I.cell _ _ hc
      exact ⟨rfl, x.lt⟩
  have inCl : ∀ {y c}, (cloFrom X.env.cells scope.names []).lookup y = some c → X.env.cells.lookup y = some c ∧ c < s.heap.objs.size := fun e => inClo (PySem.mem_of_lookup e)
  have find : ∀ {y}, scope.names.lookup y = some .free → ∃ c, (cloFrom X.env.cells scope.names []).lookup y = some c ∧ X.env.cells.lookup y = some c := fun {y} q => by
    obtain ⟨c, e⟩ := mem_lookup (cloFrom_has (cells := X.env.cells) (acc := []) (PySem.mem_of_lookup q))
    exact ⟨c, e, (inCl e).1⟩
  have noCell : ∀ {y}, scope.names.lookup y ≠ some .cell := fun q => ok.noc _ (PySem.mem_of_lookup q) rfl
  have OK : (gx X s H (gEnv X scope s.heap.objs.size code) A fp).Ok := by
    refine ⟨I.ok.mod, ok.b.kind, I.ok.glob, rfl, Nat.le_refl _, fun y u c e1 e2 => ?_, fun y hy => ?_, fun y c q => ?_, fun _ => hd, fr, .inr ⟨rfl, rfl⟩, fun b hb => ⟨?_, fun y c e q => ?_⟩, I.bs, Nat.le_trans I.ok.bsz I.sz, fun b o e hb => ?_, fun b hb q => ?_, I.stack, I.stkFree⟩
    · exact I.ok.inj y u c (inCl e1).1 (inCl e2).1
    · rcases hy with q | q
      · exact absurd q noCell
      · obtain ⟨c, e, _⟩ := find q
        exact ⟨c, e⟩
    · cases q
    · exact Nat.ne_of_lt (hfp b hb).2
    · exact (hfp b hb).1.2.2.2.2.1 y c (inCl e).1 q
    · rcases (hfp b hb).1.2.2.2.1 with q | q
      · exact I.ok.noex b o e q
      · exact absurd (Nat.lt_of_lt_of_le (Heap.lt_size e) (Nat.le_trans I.ok.bsz q)) (Nat.lt_irrefl _)
    · rcases List.mem_cons.mp (I.stkSub b q) with q | q
      · exact (hfp b hb).1.2.1 q
      · exact (hfp b hb).1.2.2.1 q
  refine ⟨OK, zo, zb, Un.kept zk, ⟨m, zc, fun i y v e1 e2 vis => ?_⟩, fun y c e => ?_, I.hok.fresh (Nat.le_refl _), fun y c e => I.freeC y c (inCl e).1, fun p hp => absurd (show p ∈ ([] : List (Addr × Obj)) ++ [] from hp) (by simp), I.hok.kept zk, by rw [wipe_length]; exact I.len⟩
  · obtain ⟨e2, hne⟩ := wipe_some e2
    have fr' : scope.names.lookup y = some .free := by
      have no : ∀ k, scope.names.lookup y = some k → (k = .local ∨ k = .cell) → False := fun k q h => by
        rcases ok.b.own _ (PySem.mem_of_lookup q) h with e | e
        · obtain ⟨p, hp, ep⟩ := List.mem_map.mp e
          have e3 := ok.b.ix p hp
          rw [show p.1 = y from ep] at e3
          exact hne (List.mem_map.mpr ⟨p, hp, nodup_ix hN e3 e1⟩)
        · exact e (List.mem_of_getElem? e1)
      rcases vis with q | q | q
      · exact (no _ q (.inl rfl)).elim
      · exact (no _ q (.inr rfl)).elim
      · exact q
    obtain ⟨m', hn, hl⟩ := I.loc
    have visX : Vis X.env.scope y := (ok.b.free _ (PySem.mem_of_lookup fr') rfl).elim (fun q => .inr (.inl q)) fun q => .inr (.inr q)
    obtain ⟨w, r, q⟩ := hl i y v e1 e2 visX
    obtain ⟨c, h1, h2⟩ := find fr'
    refine ⟨w, r, .inr ⟨.inr fr', ?_⟩⟩
    rcases q with ⟨k, _⟩ | ⟨_, c', e', x⟩
    · have k : X.env.scope.names.lookup y = some .local := k
      rcases ok.b.free _ (PySem.mem_of_lookup fr') rfl with k' | k' <;> rw [show X.env.scope.names.lookup y = _ from k'] at k <;> cases k
    · rw [h2] at e'
      cases e'
      exact ⟨c, h1, x.keeps zk⟩
  · obtain ⟨w, x⟩ := I.cell y c (inCl e).1
    exact ⟨w, x.keeps zk⟩
end

theorem over_gen {AS : Around} {elt tg iter : Expr} {ifs : List Expr} {scope : Scope} {pos : Pos} {x y : Value} {env : Env} : AS.over (.compLoop (.GeneratorExp elt [⟨tg, iter, ifs, 0⟩] scope pos) 0 x y env) [] = AS.deeper env := by
  first
    | rfl
    | (obtain ⟨hd, d, fr, gs, u⟩ := AS; simp [Around.over, Around.deeper, marksOver, frameCount, unitsOf, envsOf, guardsOf, pushEnvs, pushGuards, Code.envs, Code.env?, Code.isFrame, Code.guards, Code.weight, Code.frames, Code.isCreation, Code.isGuard, Code.isCaller, Code.cUnits]; cases fr <;> rfl)
theorem over_gen0 {AS : Around} {elt tg iter : Expr} {ifs : List Expr} {scope : Scope} {pos : Pos} {x y : Value} {env : Env} : AS.over (.compStart (.GeneratorExp elt [⟨tg, iter, ifs, 0⟩] scope pos) 0 x y env) [] = AS.deeper env := by
  first
    | rfl
    | (obtain ⟨hd, d, fr, gs, u⟩ := AS; simp [Around.over, Around.deeper, marksOver, frameCount, unitsOf, envsOf, guardsOf, pushEnvs, pushGuards, Code.envs, Code.env?, Code.isFrame, Code.guards, Code.weight, Code.frames, Code.isCreation, Code.isGuard, Code.isCaller, Code.cUnits]; cases fr <;> rfl)
/-- between two turns: what stood stands -/
structure Nap (s s' : Shared) : Prop where
  os : s'.os = s.os
  bare : AllBare s'.gens
  size : s.gens.size ≤ s'.gens.size
  keep : ∀ b o, s.heap.get? b = some o → s'.heap.get? b = some o
theorem inv_nap {X : Cx} {pins : List (Addr × Obj)} {σ : L2.St} {H : Hp} {s s' : Shared} (I : Inv X pins σ H s) (n : Nap s s') : Inv X pins σ H s' :=
  I.call' (ch := []) n.os (Un.kept n.keep) (I.hok.kept n.keep) n.bare fun b hb => absurd hb (by simp)
/-- what a turn begins with -/
structure AtTurn (G : Cx) (a : Addr) (ob : Obj) (g : Nat) (fp : List Addr) (tn : Nat → Heap → Prop) (σ : L2.St) (i : Nat) (H : Hp) (s : Shared) : Prop where
  inv : Inv G [(a, ob)] σ H s
  tn : tn i s.heap
  no : ∀ b ∈ fp, H b = none
  g : g < s.gens.size
/-- what a turn asks -/
def TurnW (J : It) (gg : TG) (tt : TT) (te : TE) (vs : List Nat) (σ : L2.St) (W : Nat → Nat → Hp → Prop) (Q : VK) (stop : Bool) : Prop := ∀ i m H, W i m H →
  (J.stop i H ∧ Q (.bl (!stop)) H) ∨ (J.go i H ∧ ∃ Nx : Hp → Prop, (∀ H', Nx H' → ∃ m', m' < m ∧ W (i + 1) m' H') ∧ ∀ x H', J.yld i H x H' → gg x (wipe σ vs) H' fun σ2 H2 => wipe σ2 vs = wipe σ vs ∧ tt σ2 H2 fun b H3 =>
    if b = true then te σ2 H3 fun y H4 => ∃ k, y = .bl k ∧ if k = stop then Q (.bl stop) H4 else Nx H4 else Nx H3)
/-- what is handed out, what is left at the end -/
def GnY (G : Cx) (a : Addr) (ob : Obj) (g : Nat) (fp : List Addr) (tn : Nat → Heap → Prop) (σ : L2.St) (W : Nat → Nat → Hp → Prop) (Q : VK) (stop : Bool) : Protocol := fun n _ v s kap =>
  (v = .bool stop ∧ ∃ σ' H', Inv G [(a, ob)] σ' H' s ∧ Q (.bl stop) H') ∨ (v = .bool (!stop) ∧ ∃ i m H', m < n ∧ AtTurn G a ob g fp tn σ i H' s ∧ W i m H' ∧ ∀ s', Nap s s' → kap (.send .none) s')
def GnR (G : Cx) (a : Addr) (ob : Obj) (σ : L2.St) (Q : VK) (stop : Bool) : GenEnd := fun _ _ r s => r = .ok .next ∧ ∃ H', Inv G [(a, ob)] σ H' s ∧ Q (.bl (!stop)) H'
theorem not_stop {k stop : Bool} (h : ¬ k = stop) : k = !stop := by
  cases k <;> cases stop <;> first | rfl | exact absurd rfl h
theorem gsz_thn {α : Type} {M : Model} {A : Around} {s : Shared} {t : Sem α} {Q Q' : α → Shared → Prop} {E : Value → Shared → Prop} {n : Nat} (hn : n ≤ s.gens.size) (h : wpAny M A t Q (fun _ _ => False) s) (k : ∀ a s', n ≤ s'.gens.size → Q a s' → Q' a s') : wpAny M A t Q' E s :=
  GenW.wpAny_gsz hn (wpAny_mono h (fun a s' q z => k a s' z q) fun _ _ z => False.elim z)
section
variable {G : Cx} {AS : Around} {elt tg iter : Expr} {ifs : List Expr} {scope : Scope} {pos : Pos} {it a : Addr} {ob : Obj} {g : Nat} {fp : List Addr} {tn : Nat → Heap → Prop} {J : It} {gg : TG} {tt : TT} {te : TE} {vs : List Nat} {σ : L2.St} {W : Nat → Nat → Hp → Prop} {Q : VK} {stop : Bool}
theorem seg_turns (ho : AS.deeper G.env = G.A) (hx : G.xe = fun _ _ => False) (hc : G.calm = true) (hpn : G.pn = []) (T : Turn G.prog G.w G.K tg J fp it tn) (hex : ∀ b ∈ fp, b ∈ G.ex) (hab : ∀ b ∈ fp, a ≠ b) (hco : G.env.scope.isCoroutine = false) (pg : PG G tg gg) (pt : PTs G ifs tt) (pe : PE G elt te)
    (turn : TurnW J gg tt te vs σ W Q stop) : ∀ (m n i : Nat) (H : Hp) (s₀ s : Shared), m < n → AtTurn G a ob g fp tn (wipe σ vs) i H s → W i m H →
      Seg (model G.prog G.w) AS (GnR G a ob (wipe σ vs) Q stop) (GnY G a ob g fp tn (wipe σ vs) W Q stop) n s₀ (.compLoop (.GeneratorExp elt [⟨tg, iter, ifs, 0⟩] scope pos) 0 (.ref it) .none G.env)
        ((model G.prog G.w).den (.compLoop (.GeneratorExp elt [⟨tg, iter, ifs, 0⟩] scope pos) 0 (.ref it) .none G.env)) [] s := by
  intro m
  induction m using Nat.strongRecOn with
  | ind m ih =>
    intro n i H s₀ s hmn at0 w
    have fpk : ∀ {σ' : L2.St} {H' : Hp} {s' : Shared}, Inv G [(a, ob)] σ' H' s' → (∀ b ∈ fp, H' b = none) → ∀ b ∈ fp, FpOk G [(a, ob)] H' b := fun {σ' H' s'} I' no b hb =>
      ⟨no b hb, (I'.ok.exf b (hex b hb)).1, I'.ok.exfs b (hex b hb), .inl (hex b hb), fun x c e => (I'.ok.exf b (hex b hb)).2 x c e, fun p hp => by
        rw [hpn] at hp
        rw [List.mem_singleton.mp (show p ∈ [(a, ob)] from hp)]
        exact hab b hb⟩
    show Seg _ AS _ _ _ s₀ _ ((compTurn (.GeneratorExp elt [⟨tg, iter, ifs, 0⟩] scope pos) 0 (.ref it) .none G.env).onRaise (leaving G.env)) [] s
    rw [compTurn_gen, Sem.onRaise_eq_wrap]
    refine seg_bind_wrap (wpAny_standAt ?_)
    rcases turn i m H w with ⟨st, q⟩ | ⟨go, Nx, hNx, step⟩
    · refine seg_bind_wrap ?_
      rw [over_gen, ho]
      have td := T.done G rfl rfl rfl hc i [(a, ob)] s (wipe σ vs) H (fun _ _ => False) at0.inv (fpk at0.inv at0.no) at0.tn st
      refine thnF td fun r s1 ⟨hr, I1⟩ => ?_
      subst hr
      exact seg_end (.ok .next) ⟨rfl, H, I1, q⟩
    · refine seg_bind_wrap ?_
      rw [over_gen, ho]
      have ti := T.item G rfl rfl rfl hc i [(a, ob)] s (wipe σ vs) H (fun _ _ => False) at0.inv (fpk at0.inv at0.no) at0.tn go
      refine gsz_thn (Nat.succ_le_of_lt at0.g) ti fun r s1 g1 ⟨u, hr, h1⟩ => ?_
      subst hr
      refine seg_bind_wrap ?_
      rw [over_gen, ho]
      refine gsz_thn g1 h1 fun _ s2 g2 ⟨x, H2, I2, r2, y2, t2, n2⟩ => ?_
      have I2' := I2.pinned (fpk I2 n2) (T.obj _ _ t2)
      refine seg_bind_wrap ?_
      rw [over_gen, ho]
      have pgr := pg.run _ s2 _ H2 x u _ I2' r2 (step x H2 y2)
      rw [hx] at pgr
      refine gsz_thn g2 pgr fun _ s3 g3 ⟨σ3, H3, I3, w3, q3⟩ => ?_
      refine seg_bind_wrap ?_
      rw [over_gen, ho]
      have ptr := pt.run _ s3 σ3 H3 _ I3 q3
      rw [hx] at ptr
      refine gsz_thn g3 ptr fun b s4 g4 ⟨H4, I4, q4⟩ => ?_
      -- the end of a turn that goes on
      have fin : ∀ {s' : Shared} {H' : Hp}, Inv G ([(a, ob)] ++ pinsAt fp s2.heap) σ3 H' s' → g + 1 ≤ s'.gens.size → AtTurn G a ob g fp tn (wipe σ vs) (i + 1) H' s' := fun {s' H'} I' gs => by
        have pin' : ∀ b ∈ fp, ∀ o, s2.heap.get? b = some o → s'.heap.get? b = some o ∧ H' b = none := fun b hb o e =>
          let z := I'.pin (b, o) (List.mem_append_right _ (List.mem_append_right _ (mem_pinsAt hb e)))
          ⟨z.1, z.2.1⟩
        have hl : (wipe σ vs).length = σ3.length := by rw [← w3, wipe_length]
        refine ⟨(I'.unpinned (pins := [(a, ob)])).weak hl (fun j v e => ?_), T.keep _ _ _ t2 fun b hb o e => (pin' b hb o e).1, fun b hb => ?_, gs⟩
        · rw [← w3] at e
          exact (wipe_some e).1
        · obtain ⟨o, e, _⟩ := T.obj _ _ t2 b hb
          exact (pin' b hb o e).2
      cases b with
      | false =>
        simp only [Bool.false_eq_true, if_false] at q4 ⊢
        obtain ⟨m', hm, w'⟩ := hNx _ q4
        exact seg_again rfl (ih m' hm n (i + 1) H4 s₀ s4 (by omega) (fin I4 g4) w')
      | true =>
        simp only [if_true] at q4 ⊢
        obtain ⟨n', rfl⟩ : ∃ n', n = n' + 1 := ⟨n - 1, by omega⟩
        have hy : ∀ v, yieldOut G.env v = yieldValue v := fun v => by simp only [yieldOut, hco, Bool.false_eq_true, if_false]
        simp only [hy]
        rw [Sem.bind_eq_wrap', Sem.bind_eq_wrap', Sem.wrap_wrap, Sem.wrap_wrap]
        refine seg_wrap ?_
        rw [over_gen, ho]
        have per := pe.run _ s4 σ3 H4 _ I4 q4
        rw [hx] at per
        refine gsz_thn g4 per fun v s5 g5 ⟨yv, H5, I5, r5, k, ek, q5⟩ => ?_
        subst ek
        obtain rfl : v = .bool k := r5
        refine seg_at (seg_yield rfl rfl rfl ?_)
        by_cases hk : k = stop
        · rw [if_pos hk] at q5
          exact .inl ⟨by rw [hk], σ3, H5, I5.unpinned (pins := [(a, ob)]), q5⟩
        · rw [if_neg hk] at q5
          obtain ⟨m', hm, w'⟩ := hNx _ q5
          refine .inr ⟨congrArg Value.bool (not_stop hk), i + 1, m', H5, by omega, fin I5 g5, w', fun s'' nap => ?_⟩
          have f5 := fin I5 g5
          exact seg_again rfl (ih m' hm n' (i + 1) H5 s'' s'' (by omega) ⟨inv_nap f5.inv nap, T.keep _ _ _ f5.tn fun b _ o e => nap.keep b o e, f5.no, Nat.lt_of_lt_of_le f5.g nap.size⟩ w')
end

section
variable {G : Cx} {AS : Around} {elt tg iter : Expr} {ifs : List Expr} {scope : Scope} {pos : Pos} {it a : Addr} {ob : Obj} {g : Nat} {fp : List Addr} {tn : Nat → Heap → Prop} {J : It} {gg : TG} {tt : TT} {te : TE} {vs : List Nat} {σ : L2.St} {W : Nat → Nat → Hp → Prop} {Q : VK} {stop : Bool}
theorem seg_begin (ho : AS.deeper G.env = G.A) (hx : G.xe = fun _ _ => False) (hc : G.calm = true) (hpn : G.pn = []) (T : Turn G.prog G.w G.K tg J fp it tn) (hex : ∀ b ∈ fp, b ∈ G.ex) (hab : ∀ b ∈ fp, a ≠ b) (hco : G.env.scope.isCoroutine = false) (pg : PG G tg gg) (pt : PTs G ifs tt) (pe : PE G elt te)
    (turn : TurnW J gg tt te vs σ W Q stop) (m n : Nat) (H : Hp) (s₀ s : Shared) (hmn : m < n) (at0 : AtTurn G a ob g fp tn (wipe σ vs) 0 H s) (w : W 0 m H) :
      Seg (model G.prog G.w) AS (GnR G a ob (wipe σ vs) Q stop) (GnY G a ob g fp tn (wipe σ vs) W Q stop) n s₀ (.compStart (.GeneratorExp elt [⟨tg, iter, ifs, 0⟩] scope pos) 0 (.ref it) .none G.env)
        ((model G.prog G.w).den (.compStart (.GeneratorExp elt [⟨tg, iter, ifs, 0⟩] scope pos) 0 (.ref it) .none G.env)) [] s := by
  have loop := seg_turns (iter := iter) (scope := scope) (pos := pos) ho hx hc hpn T hex hab hco pg pt pe turn m n 0 H s₀ s hmn at0 w
  show Seg _ AS _ _ _ s₀ _ ((compStart (.GeneratorExp elt [⟨tg, iter, ifs, 0⟩] scope pos) 0 (.ref it) .none G.env).onRaise (leaving G.env)) [] s
  unfold compStart
  rw [Sem.onRaise_eq_wrap]
  show Seg _ AS _ _ _ s₀ _ ((ask >>= _).wrap _ _ _ _) [] s
  refine seg_bind_wrap (wpAny_askSetting ?_)
  split
  · exact seg_again rfl loop
  · first
      | exact seg_bind_wrap (wpAny_rule (seg_bind_wrap (wpAny_standAt (seg_bind_wrap (T.self _ 0 s _ _ at0.tn (seg_again rfl loop))))))
      | (refine seg_bind_wrap (wpAny_rule ?_); show Seg _ AS _ _ _ s₀ _ ((standAt iter.pos >>= _).wrap _ _ _ _) [] s; exact seg_bind_wrap (wpAny_standAt (seg_bind_wrap (T.self _ 0 s _ _ at0.tn (seg_again rfl loop)))))
/-- the generator at a, to be asked at most n times more -/
structure Rdy (M : Model) (AS : Around) (R : GenEnd) (Y : Protocol) (a : Addr) (ob : Obj) (g n : Nat) (s : Shared) : Prop where
  at' : s.heap.get? a = some ob
  lim : s.heap.NoLimit
  st : ∃ gs, s.gens[g]? = some gs ∧ ∀ s', Nap s s' → gs.Goes M AS R Y n (.send .none) s'
theorem nap_trans {s s1 s2 : Shared} (x : Nap s s1) (y : Nap s1 s2) : Nap s s2 := ⟨y.os.trans x.os, y.bare, Nat.le_trans x.size y.size, fun b o e => y.keep b o (x.keep b o e)⟩
theorem nap_gen {s : Shared} {g : Nat} {gs : GenState} (hb : AllBare s.gens) (h : gs.bare = true) : Nap s (s.setGen g gs) := by
  refine ⟨rfl, ?_, by simp [Shared.setGen], fun b o e => e⟩
  intro y hy
  obtain ⟨i, hi, rfl⟩ := Array.mem_iff_getElem.mp hy
  have hi' : i < s.gens.size := by simpa [Shared.setGen] using hi
  by_cases e : g = i
  · subst e
    have : (s.setGen g gs).gens[g] = gs := by simp [Shared.setGen]
    rw [this]
    exact h
  · have q : (s.setGen g gs).gens[i]? = some s.gens[i] := by
      show (s.gens.setIfInBounds g gs)[i]? = _
      rw [Array.getElem?_setIfInBounds_ne e, Array.getElem?_eq_getElem hi']
    rw [Array.getElem?_eq_getElem hi] at q
    rw [Option.some.inj q]
    exact hb _ (Array.getElem_mem hi')
theorem set_self {s : Shared} {g : Nat} {gs : GenState} (h : g < s.gens.size) : (s.setGen g gs).gens[g]? = some gs := by
  simp [Shared.setGen, h]
/-- all( .. ): the walk over the generator -/
theorem all_turns {A : Around} {Rr : Result → Shared → Prop} (hh : A.handled = none) (hroom : A.depth < recursionLimit) (hg : ∀ h : Heap, h.get? a = some ob → h.IsGen a g)
    (fin : ∀ b s' σ' H', Inv G [(a, ob)] σ' H' s' → Q (.bl b) H' → Rr (.ok (.ret (.bool b))) s') : ∀ (n : Nat) (s : Shared), AllBare s.gens →
      Rdy (model G.prog G.w) A.in1.in1 (GnR G a ob (wipe σ vs) Q false) (GnY G a ob g fp tn (wipe σ vs) W Q false) a ob g n s → codeAny (model G.prog G.w) A (.builtin "all.loop" ⟨[.ref a], []⟩) Rr s := by
  intro n
  induction n with
  | zero =>
    intro s hb rdy
    obtain ⟨gs, hgs, hgo⟩ := rdy.st
    refine codeAny_builtin F.entry_all_loop ?_
    rw [Around.under_plainId F.plain_all_loop _]
    show wpAny _ A.in1 (pyNext (.ref a) >>= _) _ _ s
    refine wpAny_bind (wpAny_pyNext_genexpQ (A := A.in1) (P := fun _ _ s₁ => ∃ H', Inv G [(a, ob)] (wipe σ vs) H' s₁ ∧ Q (.bl (!false)) H') (Y := GnY G a ob g fp tn (wipe σ vs) W Q false) (n := 0) hh rdy.lim hroom (hg _ rdy.at') hgs (hgo _ (nap_gen hb rfl)) (fun v s₁ gs' hb' hv => ?_) fun s₁ hp h' hk => ?_)
    · rcases hv with ⟨rfl, σ', H', I', q'⟩ | ⟨_, i, m, H', hm, _⟩
      · refine wpAny_bind (wpAny_holding (wpAny_truthy_bool ?_))
        refine wpAny_bind (wpAny_letGo ?_)
        simp only [Bool.false_eq_true, if_false]
        refine wpAny_bind (wpAny_rule (wpAny_pure ?_))
        exact fin false _ σ' H' (inv_nap I' (nap_gen I'.bare hb')) q'
      · exact absurd hm (Nat.not_lt_zero _)
    · obtain ⟨H', I', q'⟩ := hp
      refine wpAny_bind (wpAny_rule (wpAny_pure ?_))
      exact fin true _ _ H' (inv_nap I' (nap_trans (nap_gen (gs := .finished) I'.bare rfl) ⟨rfl, (nap_gen (gs := .finished) I'.bare rfl).bare, Nat.le_refl _, hk⟩)) q'
  | succ n ih =>
    intro s hb rdy
    obtain ⟨gs, hgs, hgo⟩ := rdy.st
    refine codeAny_builtin F.entry_all_loop ?_
    rw [Around.under_plainId F.plain_all_loop _]
    show wpAny _ A.in1 (pyNext (.ref a) >>= _) _ _ s
    refine wpAny_bind (wpAny_pyNext_genexpQ (A := A.in1) (P := fun _ _ s₁ => ∃ H', Inv G [(a, ob)] (wipe σ vs) H' s₁ ∧ Q (.bl (!false)) H') (Y := GnY G a ob g fp tn (wipe σ vs) W Q false) (n := n + 1) hh rdy.lim hroom (hg _ rdy.at') hgs (hgo _ (nap_gen hb rfl)) (fun v s₁ gs' hb' hv => ?_) fun s₁ hp h' hk => ?_)
    · rcases hv with ⟨rfl, σ', H', I', q'⟩ | ⟨rfl, i, m, H', hm, at1, w1, kap⟩
      · refine wpAny_bind (wpAny_holding (wpAny_truthy_bool ?_))
        refine wpAny_bind (wpAny_letGo ?_)
        simp only [Bool.false_eq_true, if_false]
        refine wpAny_bind (wpAny_rule (wpAny_pure ?_))
        exact fin false _ σ' H' (inv_nap I' (nap_gen I'.bare hb')) q'
      · refine wpAny_bind (wpAny_holding (wpAny_truthy_bool ?_))
        refine wpAny_bind (wpAny_letGo ?_)
        simp only [Bool.not_false, if_true]
        have n1 := nap_gen (g := g) at1.inv.bare hb'
        have J1 := inv_nap at1.inv n1
        refine wpAny_pure ⟨plainId_quiet F.plain_all_loop _, ih _ n1.bare ⟨(J1.pin (a, ob) (List.mem_append_right _ List.mem_cons_self)).1, J1.nolimit, gs', set_self at1.g, fun s' nap => kap s' (nap_trans n1 nap)⟩⟩
    · obtain ⟨H', I', q'⟩ := hp
      refine wpAny_bind (wpAny_rule (wpAny_pure ?_))
      exact fin true _ _ H' (inv_nap I' (nap_trans (nap_gen (gs := .finished) I'.bare rfl) ⟨rfl, (nap_gen (gs := .finished) I'.bare rfl).bare, Nat.le_refl _, hk⟩)) q'
/-- any( .. ): the walk over the generator -/
theorem any_turns {A : Around} {Rr : Result → Shared → Prop} (hh : A.handled = none) (hroom : A.depth < recursionLimit) (hg : ∀ h : Heap, h.get? a = some ob → h.IsGen a g)
    (fin : ∀ b s' σ' H', Inv G [(a, ob)] σ' H' s' → Q (.bl b) H' → Rr (.ok (.ret (.bool b))) s') : ∀ (n : Nat) (s : Shared), AllBare s.gens →
      Rdy (model G.prog G.w) A.in1.in1 (GnR G a ob (wipe σ vs) Q true) (GnY G a ob g fp tn (wipe σ vs) W Q true) a ob g n s → codeAny (model G.prog G.w) A (.builtin "any.loop" ⟨[.ref a], []⟩) Rr s := by
  intro n
  induction n with
  | zero =>
    intro s hb rdy
    obtain ⟨gs, hgs, hgo⟩ := rdy.st
    refine codeAny_builtin F.entry_any_loop ?_
    rw [Around.under_plainId F.plain_any_loop _]
    show wpAny _ A.in1 (pyNext (.ref a) >>= _) _ _ s
    refine wpAny_bind (wpAny_pyNext_genexpQ (A := A.in1) (P := fun _ _ s₁ => ∃ H', Inv G [(a, ob)] (wipe σ vs) H' s₁ ∧ Q (.bl (!true)) H') (Y := GnY G a ob g fp tn (wipe σ vs) W Q true) (n := 0) hh rdy.lim hroom (hg _ rdy.at') hgs (hgo _ (nap_gen hb rfl)) (fun v s₁ gs' hb' hv => ?_) fun s₁ hp h' hk => ?_)
    · rcases hv with ⟨rfl, σ', H', I', q'⟩ | ⟨_, i, m, H', hm, _⟩
      · refine wpAny_bind (wpAny_holding (wpAny_truthy_bool ?_))
        refine wpAny_bind (wpAny_letGo ?_)
        simp only [if_true]
        refine wpAny_bind (wpAny_rule (wpAny_pure ?_))
        exact fin true _ σ' H' (inv_nap I' (nap_gen I'.bare hb')) q'
      · exact absurd hm (Nat.not_lt_zero _)
    · obtain ⟨H', I', q'⟩ := hp
      refine wpAny_bind (wpAny_rule (wpAny_pure ?_))
      exact fin false _ _ H' (inv_nap I' (nap_trans (nap_gen (gs := .finished) I'.bare rfl) ⟨rfl, (nap_gen (gs := .finished) I'.bare rfl).bare, Nat.le_refl _, hk⟩)) q'
  | succ n ih =>
    intro s hb rdy
    obtain ⟨gs, hgs, hgo⟩ := rdy.st
    refine codeAny_builtin F.entry_any_loop ?_
    rw [Around.under_plainId F.plain_any_loop _]
    show wpAny _ A.in1 (pyNext (.ref a) >>= _) _ _ s
    refine wpAny_bind (wpAny_pyNext_genexpQ (A := A.in1) (P := fun _ _ s₁ => ∃ H', Inv G [(a, ob)] (wipe σ vs) H' s₁ ∧ Q (.bl (!true)) H') (Y := GnY G a ob g fp tn (wipe σ vs) W Q true) (n := n + 1) hh rdy.lim hroom (hg _ rdy.at') hgs (hgo _ (nap_gen hb rfl)) (fun v s₁ gs' hb' hv => ?_) fun s₁ hp h' hk => ?_)
    · rcases hv with ⟨rfl, σ', H', I', q'⟩ | ⟨rfl, i, m, H', hm, at1, w1, kap⟩
      · refine wpAny_bind (wpAny_holding (wpAny_truthy_bool ?_))
        refine wpAny_bind (wpAny_letGo ?_)
        simp only [if_true]
        refine wpAny_bind (wpAny_rule (wpAny_pure ?_))
        exact fin true _ σ' H' (inv_nap I' (nap_gen I'.bare hb')) q'
      · refine wpAny_bind (wpAny_holding (wpAny_truthy_bool ?_))
        refine wpAny_bind (wpAny_letGo ?_)
        simp only [Bool.not_true, Bool.false_eq_true, if_false]
        have n1 := nap_gen (g := g) at1.inv.bare hb'
        have J1 := inv_nap at1.inv n1
        refine wpAny_pure ⟨plainId_quiet F.plain_any_loop _, ih _ n1.bare ⟨(J1.pin (a, ob) (List.mem_append_right _ List.mem_cons_self)).1, J1.nolimit, gs', set_self at1.g, fun s' nap => kap s' (nap_trans n1 nap)⟩⟩
    · obtain ⟨H', I', q'⟩ := hp
      refine wpAny_bind (wpAny_rule (wpAny_pure ?_))
      exact fin false _ _ H' (inv_nap I' (nap_trans (nap_gen (gs := .finished) I'.bare rfl) ⟨rfl, (nap_gen (gs := .finished) I'.bare rfl).bare, Nat.le_refl _, hk⟩)) q'
end

/-- all(elt for tg in iter if ..) (stop: false), any(..) (stop: true) -/
def tGen (P : Addr) (wi : TI) (gg : TG) (tt : TT) (te : TE) (vs : List Nat) (stop : Bool) : TE := fun σ H Q => wi σ H fun J H1 => GxR.TabG H1 P ∧ ∀ H2, GxR.Tabbed P H1 H2 → ∃ W : Nat → Nat → Hp → Prop, (∃ m, W 0 m H2) ∧ TurnW J gg tt te vs σ W Q stop
theorem rm_gen {k : Nat} {A : Around} {env : Env} (hr : Rm (k + 1) A) : Rm k (A.in1.in1.deeper env) :=
  ⟨⟨hr.rm.hd, by have := hr.rm.dp; show A.depth + 1 + 3 * k + 5 < _; omega, by have := hr.rm.un; show A.units + 1 + 1 + 3 + 16 * k + 200 < _; omega⟩, hr.gd⟩
theorem frames_gen {A : Around} {env : Env} {l : List Env} (h : A.frames = some l) : (A.in1.in1.deeper env).frames = some (env :: l) := by
  show Option.map _ A.frames = _
  rw [h]
  rfl
section
variable {X : Cx} {pins : List (Addr × Obj)} {σ : L2.St} {H : Hp} {s : Shared}
theorem gen_eval {c P : Addr} {elt tg iter : Expr} {ifs : List Expr} {gpos : Pos} {scope : Scope} {own : List (Str × Nat)} {wi : TI} {gg : TG} {tt : TT} {te : TE} {k : Nat} {stop : Bool} {Q : VK} {Q' : Value → Shared → Prop}
    (hr : Rm (k + 1) X.A) (TB : GxR.TabB X.base X.mg c P) (hcode : X.env.code = .ref c) (hc : X.calm = true) (hN : X.N.Nodup) (ok : GenOk X.N X.env.scope scope own) (hi : PI X tg iter wi)
    (hg : ∀ (s : Shared) (H : Hp) (C : Addr) (cd : Value) (A : Around) (fp : List Addr), Rm k A → PG (gx X s H (gEnv X scope C cd) A fp) tg gg)
    (ht : ∀ (s : Shared) (H : Hp) (C : Addr) (cd : Value) (A : Around) (fp : List Addr), Rm k A → PTs (gx X s H (gEnv X scope C cd) A fp) ifs tt)
    (he : ∀ (s : Shared) (H : Hp) (C : Addr) (cd : Value) (A : Around) (fp : List Addr), Rm k A → PE (gx X s H (gEnv X scope C cd) A fp) elt te)
    (hs : ∀ x, genFold iter X.env x = pure x) (I : Inv X pins σ H s) (h : tGen P wi gg tt te (own.map (·.2)) stop σ H Q)
    (hQ : ∀ (G : Cx) (a : Addr) (ob : Obj) (g n : Nat) (fp : List Addr) (tn : Nat → Heap → Prop) (W : Nat → Nat → Hp → Prop) (s5 : Shared), (∀ h : Heap, h.get? a = some ob → h.IsGen a g) → AllBare s5.gens →
      Rdy (model X.prog X.w) X.A.in1.in1 (GnR G a ob (wipe σ (own.map (·.2))) Q stop) (GnY G a ob g fp tn (wipe σ (own.map (·.2))) W Q stop) a ob g n s5 → G.prog = X.prog → G.w = X.w →
      (∀ σ' H' s', Inv G [(a, ob)] σ' H' s' → Inv X pins σ H' s') → Q' (.ref a) s5) :
    wpAny (model X.prog X.w) X.A (eval (.GeneratorExp elt [⟨tg, iter, ifs, 0⟩] scope gpos) X.env) Q' X.xe s := by
  refine wpAny_GeneratorExp_make ok.co (closure_ok (gen_free I ok)) ok.noc ok.dot ok.b.kind (by have := hr.rm.dp; omega) ?_ hs
  refine thn (hi.run pins s σ H _ I h) fun xv s1 h1 => thn h1 fun itv s2 h2 => ?_
  obtain ⟨it, fp, tn, J, H2, e, I2, T, st2, f2, ⟨ps, hP, tr⟩, q⟩ := h2
  subst e
  have hPs : s2.heap.get? P = some { cls := .none, data := .fields ps } := I2.hok P _ hP
  have cd2 : PySem.W.CodeHd s2.heap c P := TB.code.keeps fun b u e => I2.bk b u e
  have cont : ∀ (code : Value) (h3 : Heap) (tk : Nat) (more : Array Value), Heap.ExtBut P s2.heap h3 → s2.heap.objs.size ≤ h3.objs.size → h3.get? P = some { cls := .none, data := .fields (ps ++ more) } → TriplesOk (ps ++ more).toList →
      wpAny (model X.prog X.w) X.A (builtinsFor X.env.globals X.env.builtins) (fun bi s₄ => ∀ h', h'.Ns s₄.heap.objs.size (fun y => if y = ".0" then some (.ref it) else none) → Heap.SameBut s₄.heap.objs.size (s₄.heap.push { cls := .type "frame", data := .dict #[] }) h' →
          Q' (.ref h'.objs.size) { s₄ with
            gens := s₄.gens.push (.fresh (.compStart (.GeneratorExp elt [⟨tg, iter, ifs, 0⟩] scope gpos) 0 (.ref it) .none (genEnv scope (cloFrom X.env.cells scope.names []) s₄.heap.objs.size code bi X.env))),
            toks := s₄.toks + 1 + 1 + 1,
            heap := h'.push { cls := .type "generator", data := .fields #[.int s₄.gens.size 0, .str "<genexpr>" (s₄.toks + 1), .str (X.env.qual ++ "<genexpr>") (s₄.toks + 1 + 1)] } }) X.xe { s2 with heap := h3, toks := tk } := by
    intro code h3 tk more hx hsz hP3 tr3
    obtain ⟨bm, ob0, e1, e2, e3, e4, e5, e6, e7, e8⟩ := TB.bm
    have kp : ∀ b u, b ≠ P → s2.heap.get? b = some u → h3.get? b = some u := fun b u hb e => hx b u hb e
    refine wpAny_builtinsFor (m := X.mg) (by rw [I2.ok.glob]; exact (I2.mod.glob.keeps I2.bk).extBut hx TB.gP) e1 e2 (kp _ _ e4 (I2.bk _ _ e5)) e6 e7 e8 ?_
    intro h' hn' hs'
    have I3 : Inv X pins σ (upd H2 P (.tbl (ps ++ more))) { s2 with heap := h3, gens := s2.gens, drawn := s2.drawn, toks := tk } := GxR.inv_tab I2 hP kp hP3 I2.bare
    have hH3 : GxR.Tabbed P H2 (upd H2 P (.tbl (ps ++ more))) := ⟨⟨ps ++ more, upd_same, tr3⟩, fun b hb => upd_ne hb⟩
    obtain ⟨W, ⟨m0, w0⟩, turn⟩ := q _ hH3
    generalize upd H2 P (.tbl (ps ++ more)) = H3 at I3 hH3 w0
    have nP : ∀ b, H2 b = none → b ≠ P := fun b e z => by rw [z, hP] at e; cases e
    have f3 : ∀ b ∈ fp, FpOk X pins H3 b ∧ b < h3.objs.size := fun b hb => by
      obtain ⟨o, eo, _⟩ := T.obj _ _ st2 b hb
      refine ⟨⟨?_, (f2 b hb).2⟩, Nat.lt_of_lt_of_le (Heap.lt_size eo) hsz⟩
      rw [hH3.2 b (nP b (f2 b hb).1)]
      exact (f2 b hb).1
    have st3 : tn 0 h3 := T.keep _ _ _ st2 fun b hb o e => kp b o (nP b (f2 b hb).1) e
    show Q' (.ref h'.objs.size) _
    generalize hob : ({ cls := .type "generator", data := .fields #[.int s2.gens.size 0, .str "<genexpr>" (tk + 1), .str (X.env.qual ++ "<genexpr>") (tk + 1 + 1)] } : Obj) = ob
    have hsz' : h'.objs.size = h3.objs.size + 1 := by rw [hs'.1, Heap.size_push]
    have keep' : ∀ b o, h3.get? b = some o → h'.get? b = some o := fun b o e => hs'.extBut b o (Nat.ne_of_lt (Heap.lt_size e)) (Heap.get?_push_of_some _ e)
    have keep5 : ∀ b o, h3.get? b = some o → (h'.push ob).get? b = some o := fun b o e => Heap.get?_push_of_some _ (keep' b o e)
    generalize hcode5 : Code.compStart (.GeneratorExp elt [⟨tg, iter, ifs, 0⟩] scope gpos) 0 (.ref it) .none (gEnv X scope h3.objs.size code) = cs
    generalize hz : ({ s2 with heap := h'.push ob, gens := s2.gens.push (.fresh cs), toks := tk + 1 + 1 + 1 } : Shared) = z
    have zh : z.heap = h'.push ob := by rw [← hz]
    have zg : z.gens = s2.gens.push (.fresh cs) := by rw [← hz]
    have zo : z.os = s2.os := by rw [← hz]
    have zb : AllBare z.gens := by rw [zg]; exact I2.bare.push rfl
    have I4 := gen_start (code := code) (A := X.A.in1.in1.deeper (gEnv X scope h3.objs.size code)) (z := z) I3 ok hN f3 hr.rm.hd (frames_gen I3.ok.frames) zo zb (fun b o e => by rw [zh]; exact keep5 b o e) (by rw [zh]; exact hn'.push _)
    have ha : z.heap.get? h'.objs.size = some ob := by rw [zh]; exact Heap.get?_push_size _ (by rw [← hob]; rfl)
    have hna : H3 h'.objs.size = none := I3.hok.fresh (by show h3.objs.size ≤ _; omega)
    have I5 : Inv (gx X { s2 with heap := h3, gens := s2.gens, drawn := s2.drawn, toks := tk } H3 (gEnv X scope h3.objs.size code) (X.A.in1.in1.deeper (gEnv X scope h3.objs.size code)) fp) [(h'.objs.size, ob)] (wipe σ (own.map (·.2))) H3 z := I4.pins_of fun p hp => by
      rw [List.mem_singleton.mp hp]
      refine ⟨ha, hna, ?_, fun hf => ?_, fun v e => ?_⟩
      · show h'.objs.size ≠ h3.objs.size
        omega
      · rcases List.mem_cons.mp (I3.stkSub _ hf) with e | e
        · have := I3.lt
          have e : h'.objs.size = X.env.locals := e
          have this : X.env.locals < h3.objs.size := this
          have : h3.objs.size < h'.objs.size := by omega
          rw [e] at this
          exact absurd (Nat.lt_trans this ‹X.env.locals < h3.objs.size›) (Nat.lt_irrefl _)
        · exact I3.nofs (show h3.objs.size ≤ h'.objs.size by omega) e
      · rw [← hob] at e
        cases e
    have hgen : ∀ h : Heap, h.get? h'.objs.size = some ob → h.IsGen h'.objs.size s2.gens.size := fun h e => by
      subst hob
      exact ⟨_, _, _, e, rfl, rfl, rfl⟩
    have nsz : s2.gens.size < z.gens.size := by rw [zg, Array.size_push]; exact Nat.lt_succ_self _
    have back : ∀ (σ' : L2.St) (H' : Hp) (s' : Shared), Inv (gx X { s2 with heap := h3, gens := s2.gens, drawn := s2.drawn, toks := tk } H3 (gEnv X scope h3.objs.size code) (X.A.in1.in1.deeper (gEnv X scope h3.objs.size code)) fp) [(h'.objs.size, ob)] σ' H' s' → Inv X pins σ H' s' := fun σ' H' s' I' =>
      I3.call' (ch := fp) I'.os I'.base I'.hok I'.bare fun b hb => ⟨(f3 b hb).1.2.2.2.1, (f3 b hb).1.2.1, (f3 b hb).1.2.2.2.2.1, (f3 b hb).1.2.2.2.2.2⟩
    have pg := hg { s2 with heap := h3, gens := s2.gens, drawn := s2.drawn, toks := tk } H3 h3.objs.size code _ fp (rm_gen (env := gEnv X scope h3.objs.size code) hr)
    have pt := ht { s2 with heap := h3, gens := s2.gens, drawn := s2.drawn, toks := tk } H3 h3.objs.size code _ fp (rm_gen (env := gEnv X scope h3.objs.size code) hr)
    have pe := he { s2 with heap := h3, gens := s2.gens, drawn := s2.drawn, toks := tk } H3 h3.objs.size code _ fp (rm_gen (env := gEnv X scope h3.objs.size code) hr)
    have start : ∀ s', Nap z s' → (GenState.fresh cs).Goes (model X.prog X.w) X.A.in1.in1 (GnR (gx X { s2 with heap := h3, gens := s2.gens, drawn := s2.drawn, toks := tk } H3 (gEnv X scope h3.objs.size code) (X.A.in1.in1.deeper (gEnv X scope h3.objs.size code)) fp) h'.objs.size ob (wipe σ (own.map (·.2))) Q stop)
        (GnY (gx X { s2 with heap := h3, gens := s2.gens, drawn := s2.drawn, toks := tk } H3 (gEnv X scope h3.objs.size code) (X.A.in1.in1.deeper (gEnv X scope h3.objs.size code)) fp) h'.objs.size ob s2.gens.size fp tn (wipe σ (own.map (·.2))) W Q stop) (m0 + 1) (.send .none) s' := fun s' nap => by
      refine ⟨rfl, ?_⟩
      rw [← hcode5]
      exact seg_begin (G := gx X { s2 with heap := h3, gens := s2.gens, drawn := s2.drawn, toks := tk } H3 (gEnv X scope h3.objs.size code) (X.A.in1.in1.deeper (gEnv X scope h3.objs.size code)) fp) (AS := X.A.in1.in1) (iter := iter) (scope := scope) (pos := gpos) rfl rfl hc rfl T (fun b hb => hb) (fun b hb z => absurd (f3 b hb).2 (by rw [← z]; exact Nat.not_lt.mpr (by rw [hsz']; exact Nat.le_succ _))) ok.co pg pt pe turn m0 (m0 + 1) H3 s' s' (Nat.lt_succ_self _)
        ⟨inv_nap I5 nap, T.keep _ _ _ st3 fun b _ o e => nap.keep b o (by rw [zh]; exact keep5 b o e), fun b hb => (f3 b hb).1.1, Nat.lt_of_lt_of_le nsz nap.size⟩ w0
    exact hQ _ h'.objs.size ob s2.gens.size (m0 + 1) fp tn W z hgen zb ⟨ha, I5.nolimit, _, by rw [zg]; exact Array.getElem?_push_size .., start⟩ rfl rfl back
  refine ⟨I2.nolimit, ?_⟩
  cases hf : codeAmong gpos ps.toList with
  | none =>
    refine wpAny_genexprCodeX hcode (cd2.code hPs tr) (cd2.tab hPs) hf fun c' h' tk hx hge hlt hco' _ htab' _ => ?_
    obtain ⟨o1, vs', f1, tf, fl, tg', inF, tx, tt', op, _, _, _, _, _, _, _, _, _, htr, _⟩ := hco'
    exact cont _ h' tk _ hx (Nat.le_trans hge (Nat.le_of_lt hlt)) htab'.2 htr
  | some cv =>
    refine wpAny_genexprCode_hit hcode (cd2.code hPs tr) hf ?_
    exact cont cv s2.heap s2.toks #[] (Heap.ExtBut.refl _ _) (Nat.le_refl _) (by simpa using hPs) (by simpa using tr)
theorem pe_allG {c P : Addr} {elt tg iter : Expr} {ifs : List Expr} {p pos gpos : Pos} {scope : Scope} {own : List (Str × Nat)} {wi : TI} {gg : TG} {tt : TT} {te : TE} {k : Nat}
    (hr : Rm (k + 1) X.A) (TB : GxR.TabB X.base X.mg c P) (hcode : X.env.code = .ref c) (hc : X.calm = true) (hN : X.N.Nodup) (ok : GenOk X.N X.env.scope scope own) (hn : Gl X "all") (hm : X.mg "all" = none) (hi : PI X tg iter wi)
    (hg : ∀ (s : Shared) (H : Hp) (C : Addr) (cd : Value) (A : Around) (fp : List Addr), Rm k A → PG (gx X s H (gEnv X scope C cd) A fp) tg gg)
    (ht : ∀ (s : Shared) (H : Hp) (C : Addr) (cd : Value) (A : Around) (fp : List Addr), Rm k A → PTs (gx X s H (gEnv X scope C cd) A fp) ifs tt)
    (he : ∀ (s : Shared) (H : Hp) (C : Addr) (cd : Value) (A : Around) (fp : List Addr), Rm k A → PE (gx X s H (gEnv X scope C cd) A fp) elt te)
    (hs : ∀ x, genFold iter X.env x = pure x := by intro _; rfl) (hb : bootBuiltins "all" = some (.builtin "all") := by decide +kernel)
    (hst : starEach [.GeneratorExp elt [⟨tg, iter, ifs, 0⟩] scope gpos] X.env = (false, eval (.GeneratorExp elt [⟨tg, iter, ifs, 0⟩] scope gpos) X.env) :: starEach [] X.env := by rfl) :
    PE X (.Call (.Name "all" p) [.GeneratorExp elt [⟨tg, iter, ifs, 0⟩] scope gpos] [] pos) (tGen P wi gg tt te (own.map (·.2)) false) := by
  refine ⟨fun pins s σ H Q I h => ?_⟩
  refine wpAny_Call_Name_kw (ld_blt I hn hm hb ?_)
  refine PyProof.Rows.callWith_builtin1 ?_ hst (by rfl)
  rw [hst]
  show wpAny _ _ (spliced ((false, eval (.GeneratorExp elt [⟨tg, iter, ifs, 0⟩] scope gpos) X.env) :: backTo pos (starEach [] X.env))) _ _ s
  refine Calls.spliced_cons (gen_eval hr TB hcode hc hN ok hi hg ht he hs I h fun G a ob g n fp tn W s5 hgen hb5 rdy ep ew back => ?_)
  refine Calls.spliced_nil ?_
  refine call_function_tree F.kind_all F.plain_all F.entry_all (F.args_all1 _) ?_
  unfold Builtin.«all»
  refine wpAny_bind (m := oneArg "all" _) (wpAny_pure ?_)
  refine wpAny_bind (wpAny_pyIter_gen (hgen _ rdy.at') ?_)
  refine wpAny_pure ⟨plainId_quiet F.plain_all_loop _, ?_⟩
  rw [← ep, ← ew] at rdy ⊢
  exact all_turns hr.rm.hd (by have := hr.rm.dp; omega) hgen (fun b s' σ' H' I' q => ⟨.bl b, H', back σ' H' s' I', rfl, q⟩) n s5 hb5 rdy
theorem pe_anyG {c P : Addr} {elt tg iter : Expr} {ifs : List Expr} {p pos gpos : Pos} {scope : Scope} {own : List (Str × Nat)} {wi : TI} {gg : TG} {tt : TT} {te : TE} {k : Nat}
    (hr : Rm (k + 1) X.A) (TB : GxR.TabB X.base X.mg c P) (hcode : X.env.code = .ref c) (hc : X.calm = true) (hN : X.N.Nodup) (ok : GenOk X.N X.env.scope scope own) (hn : Gl X "any") (hm : X.mg "any" = none) (hi : PI X tg iter wi)
    (hg : ∀ (s : Shared) (H : Hp) (C : Addr) (cd : Value) (A : Around) (fp : List Addr), Rm k A → PG (gx X s H (gEnv X scope C cd) A fp) tg gg)
    (ht : ∀ (s : Shared) (H : Hp) (C : Addr) (cd : Value) (A : Around) (fp : List Addr), Rm k A → PTs (gx X s H (gEnv X scope C cd) A fp) ifs tt)
    (he : ∀ (s : Shared) (H : Hp) (C : Addr) (cd : Value) (A : Around) (fp : List Addr), Rm k A → PE (gx X s H (gEnv X scope C cd) A fp) elt te)
    (hs : ∀ x, genFold iter X.env x = pure x := by intro _; rfl) (hb : bootBuiltins "any" = some (.builtin "any") := by decide +kernel)
    (hst : starEach [.GeneratorExp elt [⟨tg, iter, ifs, 0⟩] scope gpos] X.env = (false, eval (.GeneratorExp elt [⟨tg, iter, ifs, 0⟩] scope gpos) X.env) :: starEach [] X.env := by rfl) :
    PE X (.Call (.Name "any" p) [.GeneratorExp elt [⟨tg, iter, ifs, 0⟩] scope gpos] [] pos) (tGen P wi gg tt te (own.map (·.2)) true) := by
  refine ⟨fun pins s σ H Q I h => ?_⟩
  refine wpAny_Call_Name_kw (ld_blt I hn hm hb ?_)
  refine PyProof.Rows.callWith_builtin1 ?_ hst (by rfl)
  rw [hst]
  show wpAny _ _ (spliced ((false, eval (.GeneratorExp elt [⟨tg, iter, ifs, 0⟩] scope gpos) X.env) :: backTo pos (starEach [] X.env))) _ _ s
  refine Calls.spliced_cons (gen_eval hr TB hcode hc hN ok hi hg ht he hs I h fun G a ob g n fp tn W s5 hgen hb5 rdy ep ew back => ?_)
  refine Calls.spliced_nil ?_
  refine call_function_tree F.kind_any F.plain_any F.entry_any (F.args_any1 _) ?_
  unfold Builtin.«any»
  refine wpAny_bind (m := oneArg "any" _) (wpAny_pure ?_)
  refine wpAny_bind (wpAny_pyIter_gen (hgen _ rdy.at') ?_)
  refine wpAny_pure ⟨plainId_quiet F.plain_any_loop _, ?_⟩
  rw [← ep, ← ew] at rdy ⊢
  exact any_turns hr.rm.hd (by have := hr.rm.dp; omega) hgen (fun b s' σ' H' I' q => ⟨.bl b, H', back σ' H' s' I', rfl, q⟩) n s5 hb5 rdy
end
end Wg

/-! Wagon, part 31: tables of code objects: what stays, how such readings go on, defs that hold a generator expression, the end. -/
namespace Wg
open PySem PySem.Spec PyProof.Rows L2

/-- the tables at L are tables -/
def Tabs (L : List Addr) (H : Hp) : Prop := ∀ p ∈ L, GxR.TabG H p
/-- all but the tables at L is kept, and these stay tables -/
structure KT (L : List Addr) (H H' : Hp) : Prop where
  k : Keep L H H'
  t : Tabs L H → Tabs L H'
theorem KT.refl (L : List Addr) (H : Hp) : KT L H H := ⟨Keep.refl _ _, id⟩
theorem KT.trans {L : List Addr} {H H1 H2 : Hp} (a : KT L H H1) (b : KT L H1 H2) : KT L H H2 := ⟨a.k.trans b.k, fun h => b.t (a.t h)⟩
theorem Tabs.keep0 {L : List Addr} {H H' : Hp} (h : Tabs L H) (k : Keep [] H H') : Tabs L H' := fun p hp => let ⟨ps, e, t⟩ := h p hp; ⟨ps, k _ _ nin0 e, t⟩
theorem KT.of0 {L : List Addr} {H H' : Hp} (k : Keep [] H H') : KT L H H' := ⟨k.all, fun h => h.keep0 k⟩
theorem Tabs.nin {L : List Addr} {H : Hp} (h : Tabs L H) {b : Addr} {o : HO} (e : H b = some o) (n : ∀ ps, o ≠ .tbl ps) : b ∉ L := fun z => by
  obtain ⟨ps, e', _⟩ := h b z
  rw [e] at e'
  exact n ps (Option.some.inj e')
theorem Tabs.ninN {L : List Addr} {H : Hp} (h : Tabs L H) {b : Addr} (e : H b = none) : b ∉ L := fun z => by
  obtain ⟨ps, e', _⟩ := h b z
  rw [e] at e'
  cases e'
theorem Tabs.noTup {L : List Addr} {H : Hp} (h : Tabs L H) : ∀ a xs, Tup H a xs → a ∉ L := fun a xs ⟨ob, e, _⟩ => h.nin e fun ps z => nomatch z
theorem Tabs.lst {L : List Addr} {H : Hp} (h : Tabs L H) {a : Addr} {xs : List V} (e : H a = some (.lst xs)) : a ∉ L := h.nin e fun ps z => nomatch z
theorem Tabs.dK {L : List Addr} {H : Hp} (h : Tabs L H) {a : Addr} {xs : List (Key × V)} (e : H a = some (.dK xs)) : a ∉ L := h.nin e fun ps z => nomatch z
/-- a new cell is changed -/
theorem KT.past {L : List Addr} {H H1 H2 : Hp} {d : Addr} (k1 : KT L H H1) (k2 : Keep [d] H1 H2) (n : H d = none) (ht : Tabs L H) : KT L H H2 := by
  have t1 := k1.t ht
  refine ⟨fun b o hb e => k2 b o (nin1 (ne_of_none e n)) (k1.k b o hb e), fun _ p hp => ?_⟩
  obtain ⟨ps, e, tr⟩ := t1 p hp
  refine ⟨ps, k2 _ _ (nin1 fun z => ?_) e, tr⟩
  rw [z] at hp
  exact ht.ninN n hp
theorem kt_tab {L : List Addr} {P : Addr} {H H' : Hp} (h : P ∈ L) (t : GxR.Tabbed P H H') : KT L H H' := by
  refine ⟨fun b o hb e => (t.2 b fun z => hb (z ▸ h)).trans e, fun ht p hp => ?_⟩
  by_cases z : p = P
  · rw [z]
    exact t.1
  · obtain ⟨ps, e, tr⟩ := ht p hp
    exact ⟨ps, (t.2 p z).trans e, tr⟩
theorem Tabs.sqT {K : PySem.W.Frag} {L : List Addr} {H H' : Hp} {a : Addr} {xs : List V} (ht : Tabs L H) (k : KT L H H') (h : SqT K H a xs) : SqT K H' a xs := by
  rcases h with (h | ⟨o, h⟩) | h
  · exact .inl (.inl (k.k _ _ (ht.nin h fun ps z => nomatch z) h))
  · exact .inl (.inr ⟨o, k.k _ _ (ht.nin h fun ps z => nomatch z) h⟩)
  · exact .inr h
theorem Tabs.sqL {K : PySem.W.Frag} {L : List Addr} {H H' : Hp} {a : Addr} {xs : List V} (ht : Tabs L H) (k : KT L H H') (h : SqL K H a xs) : SqL K H' a xs := by
  rcases h with (h | ⟨o, h⟩) | h
  · exact .inl (.inl (k.k _ _ (ht.nin h fun ps z => nomatch z) h))
  · exact .inl (.inr ⟨o, k.k _ _ (ht.nin h fun ps z => nomatch z) h⟩)
  · exact .inr h
mutual
theorem dp_kt {K : PySem.W.Frag} {L : List Addr} {H H' : Hp} (ht : Tabs L H) (k : KT L H H') : ∀ {v : V} {d : PyData}, Dp K H v d → Dp K H' v d
  | _, _, .non => .non
  | _, _, .bl b => .bl b
  | _, _, .int i => .int i
  | _, _, .str x => .str x
  | _, _, .lst h a => .lst (ht.sqL k h) (dps_kt ht k a)
  | _, _, .tup h a => .tup (ht.sqT k h) (dps_kt ht k a)
theorem dps_kt {K : PySem.W.Frag} {L : List Addr} {H H' : Hp} (ht : Tabs L H) (k : KT L H H') : ∀ {vs : List V} {ds : List PyData}, DpAll K H vs ds → DpAll K H' vs ds
  | _, _, .nil => .nil
  | _, _, .cons h r => .cons (dp_kt ht k h) (dps_kt ht k r)
end

/-! ### readings -/
def GU (K : PySem.W.Frag) (P : Addr) (g : TG) (tt : TT) (te : TE) (vs : List Nat) (stop : Bool) (σ : L2.St) (Q : VK) (x : V) (H1 : Hp) : Prop := iU K (tC x) σ H1 fun J H1 => GxR.TabG H1 P ∧ ∀ H2, GxR.Tabbed P H1 H2 → ∃ W : Nat → Nat → Hp → Prop, (∃ m, W 0 m H2) ∧ TurnW J g tt te vs σ W Q stop
theorem e_genU {K : PySem.W.Frag} {P : Addr} {tl : TE} {g : TG} {tt : TT} {te : TE} {vs : List Nat} {stop : Bool} {σ : L2.St} {H : Hp} {Q : VK} : tGen P (iU K tl) g tt te vs stop σ H Q ↔ tl σ H (GU K P g tt te vs stop σ Q) := Iff.rfl
/-- of the turns: n of them, turn i's truth f i -/
theorem gen_of {L : List Addr} {n : Nat} {it : Nat → V} {J : It} {g : TG} {tt : TT} {te : TE} {vs : List Nat} {σ : L2.St} {H2 : Hp} {Q : VK} {stop : Bool} (f : Nat → Bool)
    (hgo : ∀ i H, i < n → KT L H2 H → J.go i H) (hy : ∀ i H x H', i < n → KT L H2 H → J.yld i H x H' → x = it i ∧ H' = H) (hst : ∀ H, KT L H2 H → J.stop n H)
    (hs : ∀ i H (R : VK) (R0 : Hp → Prop), i < n → KT L H2 H → (∀ H4, KT L H H4 → R (.bl (f i)) H4) → g (it i) (wipe σ vs) H fun σ2 H3 => wipe σ2 vs = wipe σ vs ∧ tt σ2 H3 fun b H4 => if b = true then te σ2 H4 R else R0 H4)
    (q : ∀ H', KT L H2 H' → Q (.bl (if stop = true then (List.range n).any f else (List.range n).all f)) H') : ∃ W : Nat → Nat → Hp → Prop, (∃ m, W 0 m H2) ∧ TurnW J g tt te vs σ W Q stop := by
  refine ⟨fun i m H => m = n - i ∧ i ≤ n ∧ KT L H2 H ∧ ∀ j, j < i → f j = !stop, ⟨n, by omega, by omega, KT.refl _ _, fun _ h => by omega⟩, ?_⟩
  rintro i m H ⟨rfl, hi, k, hf⟩
  by_cases hlt : i < n
  · refine .inr ⟨hgo i H hlt k, fun H' => KT L H2 H' ∧ ∀ j, j < i + 1 → f j = !stop, fun H' h => ⟨n - (i + 1), by omega, rfl, hlt, h⟩, fun x H' y => ?_⟩
    obtain ⟨ex, eh⟩ := hy i H x H' hlt k y
    rw [ex, eh]
    refine hs i H _ _ hlt k fun H4 k4 => ⟨f i, rfl, ?_⟩
    by_cases e : f i = stop
    · rw [if_pos e]
      have q4 := q H4 (k.trans k4)
      cases stop with
      | true =>
        rw [if_pos rfl, List.any_eq_true.mpr ⟨i, List.mem_range.mpr hlt, e⟩] at q4
        exact q4
      | false =>
        rw [if_neg Bool.false_ne_true] at q4
        have : (List.range n).all f = false := by
          rw [List.all_eq_false]
          exact ⟨i, List.mem_range.mpr hlt, by rw [e]; decide⟩
        rw [this] at q4
        exact q4
    · rw [if_neg e]
      refine ⟨k.trans k4, fun j hj => ?_⟩
      rcases Nat.lt_succ_iff_lt_or_eq.mp hj with h | h
      · exact hf j h
      · rw [h]
        exact not_stop e
  · have e : i = n := by omega
    subst e
    refine .inl ⟨hst H k, ?_⟩
    have q4 := q H k
    cases stop with
    | true =>
      rw [if_pos rfl] at q4
      have : (List.range i).any f = false := by
        rw [List.any_eq_false]
        intro j hj
        rw [hf j (List.mem_range.mp hj)]
        decide
      rw [this] at q4
      exact q4
    | false =>
      rw [if_neg Bool.false_ne_true] at q4
      have : (List.range i).all f = true := by
        rw [List.all_eq_true]
        intro j hj
        rw [hf j (List.mem_range.mp hj)]
        rfl
      rw [this] at q4
      exact q4
theorem range_any {α : Type} {rs : List α} {f : α → Bool} {d : Bool} : (List.range rs.length).any (fun i => (rs[i]?.map f).getD d) = rs.any f := by
  rw [Bool.eq_iff_iff, List.any_eq_true, List.any_eq_true]
  constructor
  · rintro ⟨i, hi, e⟩
    have hi := List.mem_range.mp hi
    rw [List.getElem?_eq_getElem hi] at e
    exact ⟨_, List.getElem_mem hi, e⟩
  · rintro ⟨x, hx, e⟩
    obtain ⟨i, hi, rfl⟩ := List.getElem_of_mem hx
    exact ⟨i, List.mem_range.mpr hi, by rw [List.getElem?_eq_getElem hi]; exact e⟩
theorem range_all {α : Type} {rs : List α} {f : α → Bool} {d : Bool} : (List.range rs.length).all (fun i => (rs[i]?.map f).getD d) = rs.all f := by
  rw [Bool.eq_iff_iff, List.all_eq_true, List.all_eq_true]
  constructor
  · intro h x hx
    obtain ⟨i, hi, rfl⟩ := List.getElem_of_mem hx
    have := h i (List.mem_range.mpr hi)
    rw [List.getElem?_eq_getElem hi] at this
    exact this
  · intro h i hi
    have hi := List.mem_range.mp hi
    rw [List.getElem?_eq_getElem hi]
    exact h _ (List.getElem_mem hi)
theorem each_got {α β : Type} {R : α → β → Prop} : ∀ {vs : List α} {rs : List β} {i : Nat} {v : α}, PySem.W.EachIs R vs rs → vs[i]? = some v → ∃ r, rs[i]? = some r ∧ R v r
  | _, _, _, _, .nil, e => by simp at e
  | _, _, 0, _, .cons (b := q) h _, e => by
    simp at e
    subst e
    exact ⟨q, rfl, h⟩
  | _, _, i + 1, _, .cons _ t, e => by
    obtain ⟨q, h1, h2⟩ := each_got (i := i) t (by simpa using e)
    exact ⟨q, by simpa using h1, h2⟩
def aaB {α : Type} (stop : Bool) (f : α → Bool) (rs : List α) : Bool := if stop = true then rs.any f else rs.all f
/-- over a list or a tuple of things, wherever it stands -/
theorem g_GE {K : PySem.W.Frag} {L : List Addr} {P : Addr} {α : Type} {RR : Hp → V → α → Prop} {g : TG} {tt : TT} {te : TE} {vs : List Nat} {stop : Bool} {σ : L2.St} {H1 : Hp} {Q : VK} {a : Addr} {xs : List V} {rs : List α} (f : α → Bool) (hT : Tabs L H1) (hP : P ∈ L)
    (hx : SqL K H1 a xs ∨ SqT K H1 a xs) (he : PySem.W.EachIs (RR H1) xs rs) (hk : ∀ H' x r, RR H1 x r → KT L H1 H' → RR H' x r)
    (hs : ∀ (i : Nat) (x : V) (r : α) (H : Hp) (R : VK) (R0 : Hp → Prop), rs[i]? = some r → KT L H1 H → Tabs L H → RR H x r → (∀ H4, KT L H H4 → R (.bl (f r)) H4) → g x (wipe σ vs) H fun σ2 H3 => wipe σ2 vs = wipe σ vs ∧ tt σ2 H3 fun b H4 => if b = true then te σ2 H4 R else R0 H4)
    (q : ∀ H', KT L H1 H' → Q (.bl (aaB stop f rs)) H') : GU K P g tt te vs stop σ Q (.ref a) H1 := by
  have hl := he.length
  have tail : ∀ {J : It} {H2 : Hp}, GxR.Tabbed P H1 H2 → (∀ i H, i < xs.length → KT L H2 H → J.go i H) → (∀ i H x H', i < xs.length → KT L H2 H → J.yld i H x H' → x = xs.getD i .non ∧ H' = H) → (∀ H, KT L H2 H → J.stop xs.length H) →
      ∃ W : Nat → Nat → Hp → Prop, (∃ m, W 0 m H2) ∧ TurnW J g tt te vs σ W Q stop := fun {J H2} t h1 h2 h3 => by
    have k12 := kt_tab hP t
    refine gen_of (L := L) (n := xs.length) (it := fun i => xs.getD i .non) (fun i => (rs[i]?.map f).getD stop) h1 h2 h3 (fun i H R R0 hi k hR => ?_) fun H' k => ?_
    · obtain ⟨r, e1, e2⟩ := each_got he (List.getElem?_eq_getElem hi)
      have e3 : xs.getD i .non = xs[i] := by rw [List.getD_eq_getElem?_getD, List.getElem?_eq_getElem hi]; rfl
      show g (xs.getD i .non) _ _ _
      rw [e3]
      rw [e1] at hR
      exact hs i _ r H R R0 e1 (k12.trans k) ((k12.trans k).t hT) (hk _ _ _ e2 (k12.trans k)) hR
    · rw [hl, range_any, range_all]
      exact q H' (k12.trans k)
  have kk : ∀ {H2 H}, GxR.Tabbed P H1 H2 → KT L H2 H → KT L H1 H := fun t k => (kt_tab hP t).trans k
  rcases hx with hx | hx
  · exact .inl ⟨a, xs, rfl, hx, hT P hP, fun H2 t => tail t (fun i H hi k => ⟨xs, xs[i], hT.sqL (kk t k) hx, List.getElem?_eq_getElem hi⟩) (fun i H x H' hi k y => ⟨by rw [List.getD_eq_getElem?_getD, y.2 xs (hT.sqL (kk t k) hx)]; rfl, y.1⟩) fun H k => ⟨xs, hT.sqL (kk t k) hx, Nat.le_refl _⟩⟩
  · exact .inr (.inl ⟨a, xs, rfl, hx, hT P hP, fun H2 t => tail t (fun i H hi k => ⟨xs, xs[i], hT.sqT (kk t k) hx, List.getElem?_eq_getElem hi⟩) (fun i H x H' hi k y => ⟨by rw [List.getD_eq_getElem?_getD, y.2 xs (hT.sqT (kk t k) hx)]; rfl, y.1⟩) fun H k => ⟨xs, hT.sqT (kk t k) hx, Nat.le_refl _⟩⟩)
/-- over a text's signs -/
theorem g_GS {K : PySem.W.Frag} {L : List Addr} {P : Addr} {g : TG} {tt : TT} {te : TE} {vs : List Nat} {stop : Bool} {σ : L2.St} {H1 : Hp} {Q : VK} {z : Str} (f : Nat → Bool) (hT : Tabs L H1) (hP : P ∈ L)
    (hs : ∀ c H (R : VK) (R0 : Hp → Prop), c ∈ z.cps.toList → KT L H1 H → Tabs L H → (∀ H4, KT L H H4 → R (.bl (f c)) H4) → g (.str ⟨#[c]⟩) (wipe σ vs) H fun σ2 H3 => wipe σ2 vs = wipe σ vs ∧ tt σ2 H3 fun b H4 => if b = true then te σ2 H4 R else R0 H4)
    (q : ∀ H', KT L H1 H' → Q (.bl (aaB stop f z.cps.toList)) H') : GU K P g tt te vs stop σ Q (.str z) H1 := by
  refine .inr (.inr ⟨z, rfl, hT P hP, fun H2 t => ?_⟩)
  have k12 := kt_tab hP t
  have sz : z.cps.size = z.cps.toList.length := by simp
  refine gen_of (L := L) (n := z.cps.size) (it := fun i => .str ⟨#[z.cps.getD i 0]⟩) (fun i => (z.cps.toList[i]?.map f).getD stop) (fun i H hi k => hi) (fun i H x H' hi k y => ?_) (fun H k => Nat.le_refl _) (fun i H R R0 hi k hR => ?_) fun H' k => ?_
  · obtain ⟨e1, c, e2, e3⟩ := y
    refine ⟨?_, e1⟩
    rw [e3, Array.getD_eq_getD_getElem?, e2]
    rfl
  · have hi' : i < z.cps.toList.length := by rw [← sz]; exact hi
    have e : z.cps.getD i 0 = z.cps.toList[i] := by
      rw [Array.getD_eq_getD_getElem?, ← Array.getElem?_toList, List.getElem?_eq_getElem hi']
      rfl
    rw [List.getElem?_eq_getElem hi'] at hR
    show g (.str ⟨#[z.cps.getD i 0]⟩) _ _ _
    rw [e]
    exact hs _ H R R0 (List.getElem_mem hi') (k12.trans k) ((k12.trans k).t hT) hR
  · rw [sz, range_any, range_all]
    exact q H' (k12.trans k)

/-! ### defs that hold a generator expression -/
section
variable {P : Program} {w : World} {K : PySem.W.Frag} {mg : Str → Option Value} {b : Heap}
theorem keepsT {x qual : Str} {st : Stmt} {f c : Addr} {fd : FuncData} {N ps : List Str} {k : Nat} {sp : Sp} (F : Fun K x qual st f fd) (hc : fd.code = .ref c) (S : FnScope N ps (defScope st))
    (len : ∀ vs H Q E, sp vs H Q E → vs.length = ps.length)
    (body : ∀ (A : Around) (o : List Env) (s : Shared) (H : Hp) (vs : List V) (Q : VK) (E : XK), Rm k (A.deeper (envOfC qual (defScope st) s.heap.objs.size f (.ref c))) → sp vs H Q E →
      ∃ t, PSs (cxOf CX0 P w K mg b N qual (defScope st) f (.ref c) A o s H E).nox (defBody st) t ∧ t { nx := fun _ H' => Q .non H', rt := Q } (start N vs) H) :
    Keeps P w K mg b CX0 (k + 1) f fd ps sp := by
  obtain ⟨oc, od, kV, doc, pm, an, cdv, ct, osl, rfl, lk, hcd⟩ := F.ex
  obtain rfl : cdv = .ref c := hc
  refine ⟨len, fun A o s H g us vs Q E hr e0 hb r hsp => ?_⟩
  have hl := len _ _ _ _ hsp
  have up : ∀ {a : Addr} {ob : Obj}, b.get? a = some ob → s.heap.get? a = some ob := fun {a ob} q => (e0.bs a ob q).1
  have inK : K.In s.heap := e0.mod.kin.keeps fun _ _ q => up q
  have nolim : s.heap.NoLimit := e0.mod.nolimit.keeps fun _ _ q => up q
  have kinds : ∀ y ∈ ps.zip us, (defScope st).names.lookup y.1 = some .local ∨ ((defScope st).names.lookup y.1 = some .cell ∧ ((cellsFrom (s.heap.objs.size + 1) (defScope st).names []).lookup y.1).isSome = true) := by
    rintro ⟨n, v⟩ hy
    have hn := S.par n (List.of_mem_zip hy).1
    exact hn.imp id fun q => ⟨q, PySem.W.cellsFrom_some _ _ _ (.inl q)⟩
  have recd := PySem.W.codeRec_of inK hcd
  refine codeAny_call_function hr.rm.depth (inK _ _ lk) rfl S.co S.gen rfl recd (hb _ _ _ _ ?_)
  refine wpAny_newFunctionEnv_cells S.kind kinds ?_
  intro env he s1 y
  subst he
  refine ⟨nolim.keeps y.toInCall.keep, codeAny_func ?_⟩
  obtain ⟨t, ht, hq⟩ := body A o s H vs Q E (hr.deep _) hsp
  have I := inv_start (CX := CX0) (E := E) S hr.rm.hd e0 hl r y
  refine wpAny_mono (ht.nox.run [] s1 (start N vs) H _ I hq) ?_ fun _ _ q => q
  intro fl s' hs
  match fl, hs with
  | .ret u, hs =>
    obtain ⟨v, σ', H', J, rv, q⟩ := hs
    exact ⟨v, H', J.os, J.bare, J.base, J.hok, rv, q⟩
  | .next, hs =>
    obtain ⟨σ', H', J, q⟩ := hs
    exact ⟨.non, H', J.os, J.bare, J.base, J.hok, rfl, q⟩
  | .brk, hs => exact hs.elim fun _ z => z.elim fun _ y => y.2.elim
  | .cont, hs => exact hs.elim fun _ z => z.elim fun _ y => y.2.elim
end

/-! ### the end, with tables -/
/-- what may be tracked at the beginning: the script, locked, and the tables -/
def OnlyT (L : List Addr) (H : Hp) : Prop := ∀ b, H b = none ∨ (b ∈ L ∧ H b = some (.tbl #[])) ∨ ∃ o xs, H b = some (.frz o (.lst xs))
/-- the table of the code object at c, no object of the module's own -/
def tabIn (K : PySem.W.Frag) (c : Addr) : Option Addr := match K.lookup c with
  | some o => match o.data with
    | .fields vs => match vs[11]? with
      | some (Value.ref P) => if (K.lookup P).isNone then some P else none
      | _ => none
    | _ => none
  | none => none
theorem tabIn_ok {K : PySem.W.Frag} {h : Heap} {c P P' : Addr} (hK : K.In h) (e : tabIn K c = some P) (t : h.TableAt c P' #[]) : P' = P ∧ K.lookup P = none := by
  unfold tabIn at e
  split at e
  · rename_i o lk
    have ho := hK _ _ lk
    obtain ⟨⟨o', vs', e1, _, e3, e4⟩, _⟩ := t
    rw [ho] at e1
    cases e1
    rw [e3] at e
    dsimp only at e
    rw [e4] at e
    dsimp only at e
    split at e
    · rename_i hn
      cases e
      exact ⟨rfl, Option.isNone_iff_eq_none.mp hn⟩
    · cases e
  · cases e
theorem endT {P : Program} {w : World} {K : PySem.W.Frag} {mg mb : Str → Option Value} {k : Nat} {fa a : Addr} {fd : FuncData} {x : Str} {cs : List (Addr × Addr)} {sp : Sp} {s : Shared} {vs : List Value} {ns : List Int}
    (KX : K.In s.heap) (hns : s.heap.Ns mainGlobals mg) (hb : s.heap.Ns builtinsNs mb) (hbb : ∀ x : Str, x ≠ "__name__" → mb x = bootBuiltins x) (hlim : s.heap.NoLimit) (hg : s.gens = #[])
    (tab : ∀ p ∈ cs, s.heap.IsCode p.1 p.2 #[] ∧ s.heap.TableAt p.1 p.2 #[] ∧ K.lookup p.2 = none)
    (hbm : ∃ (bm : Addr) (ob : Obj), mg "__builtins__" = some (.ref bm) ∧ bm ≠ builtinsNs ∧ s.heap.get? bm = some ob ∧ ob.cls = .type "module" ∧ ob.dict = some builtinsNs ∧ ob.data = .plain)
    (ha : s.heap.get? a = some { cls := .type "list", data := .seq vs.toArray }) (hi : IntsAre vs ns) (hl : ns.length ≤ sizeLine) (hr : Rm k callerA)
    (F : ∀ b : Heap, K.In b → b.Ns mainGlobals mg → (∀ p ∈ cs, GxR.TabB b mg p.1 p.2) → Keeps P w K mg b CX0 k fa fd [x] sp) (hbind : ∀ (s : Shared) (u : Value), BindsTo s fd ⟨[u], []⟩ [(x, u)])
    (hsp : ∀ H : Hp, OnlyT (cs.map (·.2)) H → Tabs (cs.map (·.2)) H → SqL K H a (ns.map V.int) → sp [.ref a] H (fun v _ => v = .bl true) fun _ _ _ => False) :
    codeAny (model P w) callerA (.call (.ref fa) ⟨[.ref a], []⟩) (fun r s' => r = .ok (.ret (.bool true)) ∧ OldK s.heap s'.heap ∧ s'.os = s.os ∧ AllBare s'.gens) s := by
  have lenV := hi.length
  have rv := vals_ints hi
  have obT : ∀ b : Addr, b ∈ cs.map (·.2) → s.heap.get? b = some { cls := .none, data := .fields #[] } := fun b hm => by
    obtain ⟨p, hp, rfl⟩ := List.mem_map.mp hm
    exact (tab p hp).2.1.2
  have naT : a ∉ cs.map (·.2) := fun hm => by
    have q := obT a hm
    rw [ha] at q
    have q' := congrArg Obj.data (Option.some.inj q)
    cases q'
  let H0 : Hp := fun b => if b ∈ cs.map (·.2) then some (.tbl #[]) else if b = a ∧ K.lookup a = none then some (.frz { cls := .type "list", data := .seq vs.toArray } (.lst (ns.map V.int))) else none
  have atT : ∀ {b}, b ∈ cs.map (·.2) → H0 b = some (.tbl #[]) := fun hm => if_pos hm
  have only : OnlyT (cs.map (·.2)) H0 := fun b => by
    by_cases h1 : b ∈ cs.map (·.2)
    · exact .inr (.inl ⟨h1, if_pos h1⟩)
    · by_cases h2 : b = a ∧ K.lookup a = none
      · exact .inr (.inr ⟨_, _, (if_neg h1).trans (if_pos h2)⟩)
      · exact .inl ((if_neg h1).trans (if_neg h2))
  have where_ : ∀ b, H0 b ≠ none → b ∈ cs.map (·.2) ∨ (b = a ∧ K.lookup a = none) := fun b n => by
    by_cases h1 : b ∈ cs.map (·.2)
    · exact .inl h1
    · by_cases h2 : b = a ∧ K.lookup a = none
      · exact .inr h2
      · exact absurd ((if_neg h1).trans (if_neg h2)) n
  have tabs : Tabs (cs.map (·.2)) H0 := fun p hp => ⟨#[], atT hp, trivial⟩
  have sq : SqL K H0 a (ns.map V.int) := by
    cases q : K.lookup a with
    | none => exact .inl (.inr ⟨_, (if_neg naT).trans (if_pos ⟨rfl, q⟩)⟩)
    | some o =>
      have e := (KX a o q).symm.trans ha
      obtain rfl := Option.some.inj e
      exact .inr ⟨_, vs.toArray, _, q, rfl, rfl, rfl, by rw [List.size_toArray, lenV]; exact hl, by simpa using rv⟩
  have hok : HOk P w H0 s.heap := fun c u z => by
    rcases where_ c (by rw [z]; exact Option.some_ne_none u) with h | ⟨rfl, h⟩
    · rw [atT h] at z
      cases z
      exact obT c h
    · rw [show H0 c = _ from (if_neg naT).trans (if_pos ⟨rfl, h⟩)] at z
      cases z
      exact ⟨ha, by rw [List.length_map]; exact hl, vs, _, rv, ha⟩
  have stays : ∀ {c : Addr} {o : Obj}, s.heap.get? c = some o → (∀ u n, o.data ≠ .seq u n) → o.data ≠ .fields #[] → H0 c = none := fun {c o} e h1 h2 => by
    match q : H0 c with
    | none => rfl
    | some u =>
      rcases where_ c (by rw [q]; exact Option.some_ne_none u) with h | ⟨rfl, _⟩
      · rw [obT c h] at e
        cases e
        exact (h2 rfl).elim
      · rw [ha] at e
        cases e
        exact (h1 _ _ rfl).elim
  have dictOut : ∀ {c : Addr} {o : Obj} {es : Array DictEntry} {ep : Nat}, s.heap.get? c = some o → o.data = .dict es ep → H0 c = none := fun e d => stays e (fun u n z => by rw [d] at z; cases z) fun z => by rw [d] at z; cases z
  have ns' : ∀ {c : Addr} {m : Str → Option Value}, s.heap.Ns c m → (hidT s.heap H0).Ns c m := fun ⟨o, es, ep, e, d, r⟩ => ⟨o, es, ep, hidT_get e (dictOut e d), d, r⟩
  have kin : K.In (hidT s.heap H0) := fun c o e => by
    refine hidT_get (KX c o e) ?_
    match q : H0 c with
    | none => rfl
    | some u =>
      rcases where_ c (by rw [q]; exact Option.some_ne_none u) with h | ⟨rfl, h⟩
      · obtain ⟨p, hp, rfl⟩ := List.mem_map.mp h
        rw [(tab p hp).2.2] at e
        cases e
      · rw [h] at e
        cases e
  obtain ⟨mc, l1, l2⟩ := hlim
  have M : Mod K mg (hidT s.heap H0) := ⟨kin, ns' hns, ⟨mb, ns' hb, hbb⟩, ⟨mc, ns' l1, l2⟩⟩
  have nG : ∀ {p : Addr}, p ∈ cs.map (·.2) → mainGlobals ≠ p := fun hm z => by
    obtain ⟨o, es, ep, e, d, _⟩ := hns
    rw [z, obT _ hm] at e
    cases e
    cases d
  have TB : ∀ p ∈ cs, GxR.TabB (hidT s.heap H0) mg p.1 p.2 := fun p hp => by
    have hm : p.2 ∈ cs.map (·.2) := List.mem_map.mpr ⟨p, hp, rfl⟩
    refine ⟨?_, ?_, nG hm⟩
    · obtain ⟨o, us, file, tf, flags, tg, inF, text, tt, e1, r1, r2, r3, rest⟩ := PySem.W.CodeHd.of (tab p hp).1 (tab p hp).2.1
      refine ⟨o, us, file, tf, flags, tg, inF, text, tt, hidT_get e1 (stays e1 (fun u n z => ?_) fun z => ?_), r1, r2, r3, rest⟩
      · rw [r2] at z
        cases z
      · rw [r2] at z
        cases z
        simp at r3
    · obtain ⟨bm, ob, b1, b2, b3, b4, b5, b6⟩ := hbm
      refine ⟨bm, ob, b1, b2, fun z => ?_, fun z => ?_, hidT_get b3 (stays b3 (fun u n z => ?_) fun z => ?_), b4, b5, b6⟩
      · obtain ⟨o, es, ep, e, d, _⟩ := hns
        rw [z, e] at b3
        cases b3
        rw [d] at b6
        cases b6
      · rw [z, obT _ hm] at b3
        cases b3
        cases b6
      · rw [b6] at z
        cases z
      · rw [b6] at z
        cases z
  have e0 : Env0 P w K mg (hidT s.heap H0) callerA [] s H0 :=
    ⟨rfl, M, fun c o e => of_hidT e, Nat.le_of_eq (hidT_size _ _), trivial, fun c hc => (List.not_mem_nil hc).elim, hok, .of_eq hg⟩
  have run := (F _ kin (ns' hns) TB).run callerA [] s H0 ⟨[.ref a], []⟩ [.ref a] [.ref a] _ _ hr e0 (hbind s (.ref a)) (.cons rfl .nil) (hsp H0 only tabs sq)
  refine codeAny_mono run fun res s' hq => ?_
  match res, hq with
  | .error e, hq => exact hq.elim
  | .ok .next, hq => exact hq.elim
  | .ok .brk, hq => exact hq.elim
  | .ok .cont, hq => exact hq.elim
  | .ok (.ret u), hq =>
    obtain ⟨v, H', os, bare, un, hok', r', q⟩ := hq
    obtain rfl : v = .bl true := q
    obtain rfl : u = Value.bool true := r'
    have grown : ∀ p ∈ cs, ∃ more : Array Value, s'.heap.get? p.2 = some { cls := .none, data := .fields more } := fun p hp => by
      obtain ⟨more, z⟩ := un.tbls p.2 #[] (atT (List.mem_map.mpr ⟨p, hp, rfl⟩))
      exact ⟨_, hok' p.2 _ z⟩
    have rest : ∀ c o, c ∉ cs.map (·.2) → s.heap.get? c = some o → s'.heap.get? c = some o := fun c o hn e => by
      rcases only c with z | ⟨z, _⟩ | ⟨ob, xs, z⟩
      · exact un.keep c o e z List.not_mem_nil List.not_mem_nil
      · exact absurd z hn
      · have z1 := (hok c _ z).1
        have z2 := (hok' c _ (un.frzs c ob _ z)).1
        exact z2.trans (z1.symm.trans e)
    refine ⟨rfl, ⟨fun c o e => ?_, fun c o e => ?_⟩, os, bare⟩
    · by_cases hm : c ∈ cs.map (·.2)
      · obtain ⟨p, hp, rfl⟩ := List.mem_map.mp hm
        obtain ⟨more, g⟩ := grown p hp
        rw [obT _ hm] at e
        cases e
        exact .inr (.inl ⟨(tab p hp).2.1.isCodeTable, rfl, #[], more, rfl, by rw [Array.empty_append]; exact g⟩)
      · exact .inl (rest c o hm e)
    · by_cases hm : c ∈ cs.map (·.2)
      · obtain ⟨p, hp, rfl⟩ := List.mem_map.mp hm
        obtain ⟨more, g⟩ := grown p hp
        exact ⟨_, g⟩
      · exact ⟨o, rest c o hm e⟩
/-- a def of the text with its code object and that one's table -/
structure TabDef (q : Program) (K : PySem.W.Frag) (mg : Str → Option Value) (t : Str × Addr × Addr) : Prop where
  r : ((recsOf q).any fun e => e.name == t.1) = true
  f : ∃ (fa : Addr) (o : Obj) (fd : FuncData), mg t.1 = some (.ref fa) ∧ K.lookup fa = some o ∧ o.data = .func fd ∧ fd.code = .ref t.2.1
  t : tabIn K t.2.1 = some t.2.2
theorem walk_endT {l : PySem.W.OpenLaw} {n k : Nat} {q : Program} {loose : List Str} {XP : (Str → Option Value) → Heap → Prop} {YP : World → Heap → Prop} {d : DefRec} {K : Params → PySem.W.Frag} {sp : PySem.W.Frag → List Addr → Sp} {x : Str}
    (hn : l.most = some n) (hn2 : n ≤ sizeLine) (hdf : d.params.defaults = []) (hr : Rm k callerA) (hY : ∀ (w : World) (h : Heap), YP w h → (K w.params).In h)
    (F : ∀ (w : World) (mg : Str → Option Value) (fa : Addr) (h : Heap), (K w.params).In h → h.Ns mainGlobals mg → mg d.name = some (.ref fa) →
      ∃ (fd : FuncData) (ts : List (Str × Addr × Addr)), (∀ t ∈ ts, TabDef q (K w.params) mg t) ∧ (∀ (s : Shared) (u : Value), BindsTo s fd ⟨[u], []⟩ [(x, u)]) ∧
        ∀ b : Heap, (K w.params).In b → b.Ns mainGlobals mg → (∀ t ∈ ts, GxR.TabB b mg t.2.1 t.2.2) → Keeps l.prog w (K w.params) mg b CX0 k fa fd [x] (sp (K w.params) (ts.map fun t => t.2.2)))
    (hsp : ∀ (K : PySem.W.Frag) (L : List Addr) (H : Hp) (a : Addr) (ns : List Int), ns.length ≤ n → OnlyT L H → Tabs L H → SqL K H a (ns.map V.int) → sp K L [.ref a] H (fun v _ => v = .bl true) fun _ _ _ => False) :
    PySem.W.WalkO q loose XP YP l.row.toRowW d [] (fun f vs => PySem.call f vs) := by
  refine Att.attach_call hn hdf ?_
  intro w s₀ s₁ mg mb fa o pm cd doc a vs ns G Y ho hd hcd hmg hobj hints hlen hg
  have kin := hY w _ Y
  obtain ⟨fd, ts, hts, hb, hF⟩ := F w mg fa _ kin G.T.g hmg
  have em : (ts.map fun t => t.2).map (fun p => p.2) = ts.map fun t => t.2.2 := by rw [List.map_map]; rfl
  refine endT (cs := ts.map fun t => t.2) kin G.T.g G.T.b G.T.builtins G.T.nolimit hg (fun p hp => ?_) G.T.bmain hobj hints (Nat.le_trans hlen hn2) hr (fun b h1 h2 h3 => hF b h1 h2 fun t ht => h3 _ (List.mem_map.mpr ⟨t, ht, rfl⟩)) hb fun H hO hT hS => ?_
  · obtain ⟨t, ht, rfl⟩ := List.mem_map.mp hp
    obtain ⟨r, ⟨fa', o1, fd1, m1, k1, d1, c1⟩, tt⟩ := hts t ht
    obtain ⟨dL, hm, hnm⟩ := List.any_eq_true.mp r
    obtain ⟨a', o', fd', c', P', h1, h2, h3, h4, h5, h6⟩ := G.T.tab dL hm
    rw [show dL.name = t.1 from beq_iff_eq.mp hnm, m1] at h1
    cases h1
    have g1 := kin _ _ k1
    rw [g1] at h2
    cases h2
    rw [d1] at h3
    cases h3
    rw [c1] at h4
    cases h4
    obtain ⟨e1, e2⟩ := tabIn_ok kin tt h6
    subst e1
    exact ⟨h5, h6, e2⟩
  · rw [em] at hO hT
    exact hsp _ _ H a ns hlen hO hT hS
theorem Scr.ofT {K : PySem.W.Frag} {L : List Addr} {H : Hp} {a : Addr} {xs : List V} (o : OnlyT L H) (h : SqL K H a xs) : Scr K H a xs := by
  rcases h with (h | h) | h
  · rcases o a with z | ⟨_, z⟩ | ⟨ob, ys, z⟩
    · exact nomatch z.symm.trans h
    · exact nomatch z.symm.trans h
    · exact nomatch z.symm.trans h
  · exact .inl h
  · exact .inr h
theorem Scr.kt {K : PySem.W.Frag} {L : List Addr} {H H' : Hp} {a : Addr} {xs : List V} (h : Scr K H a xs) (ht : Tabs L H) (k : KT L H H') : Scr K H' a xs :=
  h.elim (fun ⟨o, e⟩ => .inl ⟨o, k.k _ _ (ht.nin e fun ps z => nomatch z) e⟩) .inr
theorem Tup.kt {L : List Addr} {H H' : Hp} {a : Addr} {xs : List V} (h : Tup H a xs) (ht : Tabs L H) (k : KT L H H') : Tup H' a xs := h.keep k.k (ht.noTup _ _ h)
end Wg

/-! Wagon, part 32: a text times a number, list of a text, upper; signs. -/
namespace Wg
open PySem PySem.Spec PyProof.Rows L2
section
variable {X : Cx}
/-- text * number -/
def uMulS : R2 := fun x y H Q => ∃ (z : Str) (n : Int), x = .str z ∧ y = .int n ∧ 2 ≤ n ∧ n ≤ 100000 ∧ z.length ≠ 0 ∧ z.length * n.toNat ≤ 1000000 ∧ Q (.str ⟨(List.replicate n.toNat z.cps).foldl (· ++ ·) #[]⟩) H
theorem op_uMulS : OpR X (binaryOp .Mult) uMulS := by
  intro pins s σ H x y v u Q I rx ry h
  obtain ⟨z, n, rfl, rfl, h1, h2, h3, h4, q⟩ := h
  obtain ⟨t, rfl⟩ := rx
  obtain ⟨t', rfl⟩ := ry
  have nn : ¬ n < 1 := by omega
  have n1 : (n == 1 || z.length == 0) = false := by
    rw [Bool.or_eq_false_iff]
    exact ⟨beq_false_of_ne (by omega), beq_false_of_ne h3⟩
  have tl : Builtin.Str.tooLong (z.length * n.toNat) = false := by
    unfold Builtin.Str.tooLong
    exact decide_eq_false (Nat.not_lt.mpr (len_le h4))
  refine PySem.P.mul_str ?_ (fun _ _ => ?_) (fun _ _ => tl) ?_
  · rw [decide_eq_false (by omega), decide_eq_false (by omega)]
    rfl
  · have : z.length ≤ 1000000 := Nat.le_trans (Nat.le_mul_of_pos_right _ (by omega)) h4
    have e : (92233720368547 : Int) ≤ (2 ^ 63 - 1) / n := by
      rw [Int.le_ediv_iff_mul_le (by omega)]
      omega
    omega
  · rw [if_neg nn, if_neg (by rw [n1]; exact Bool.false_ne_true)]
    refine ⟨?_, ⟨.str _, H, I.tok _, ⟨_, rfl⟩, q⟩⟩
    exact PySem.fits_reps tl
def uUpper : V → List V → Hp → VK → Prop := fun x xs H Q => ∃ a, x = .str a ∧ xs = [] ∧ a.length ≤ 5592405 ∧ Q (.str (Txt.upper a)) H
theorem pe_uUpper {o : Expr} {to : TE} {apos pos : Pos} (ho : PE X o to) (hbase : attributeBase o "upper" X.env (eval o X.env) = eval o X.env := by rfl) (hline : (apos.endLine == pos.line) = true := by rfl) :
    PE X (.Call (.Attribute o "upper" apos) [] [] pos) (tM0 uUpper to) := pe_upper ho hbase hline
/-- list(text) -/
def uListZ : List V → Hp → VK → Prop := fun xs H Q => ∃ z : Str, xs = [.str z] ∧ z.length ≤ 1000000 ∧ Mk H (.lst (z.cps.toList.map fun c => .str ⟨#[c]⟩)) Q
theorem call_uListZ (hc : X.calm = true) : CallR X (.type "list") uListZ := by
  intro pins s σ H xs us Q I r h
  obtain ⟨z, rfl, hz, q⟩ := h
  obtain ⟨u, rfl, rx⟩ := vals1 r
  obtain ⟨t, rfl⟩ := rx
  refine call_list_str (I.ok.hd hc) z t (fun h' tk acc c' hk e hi => ?_) (len_le hz)
  have hl : (z.cps.toList.map fun c => V.str ⟨#[c]⟩).length = acc.toList.length := by
    rw [List.length_map, Array.length_toList, Array.length_toList]
    exact hi.1.symm
  refine ⟨.ref s.heap.objs.size, upd H s.heap.objs.size (.lst (z.cps.toList.map fun c => .str ⟨#[c]⟩)), I.laid hk (Nat.le_refl _) ⟨by rw [List.length_map, Array.length_toList]; exact len_le hz, acc.toList, c', ?_, by rw [Array.toArray_toList]; exact e⟩, rfl, q.at _ (I.hok.fresh (Nat.le_refl _))⟩
  refine vals_of_idx _ _ hl.symm fun j u hj => ?_
  obtain ⟨c, t', hc, rfl⟩ := hi.2 j u (by rw [← Array.getElem?_toList]; exact hj)
  refine ⟨.str ⟨#[c]⟩, ?_, ⟨_, rfl⟩⟩
  rw [List.getElem?_map, Array.getElem?_toList, hc]
  rfl
end
end Wg

/-! Wagon, part 33: f-strings, partition, int(text), texts cut, == of texts. -/
namespace Wg
open PySem PySem.Spec PyProof.Rows L2 PySem.W
open Builtin Builtin.Str Builtin.Int
/-- a number below a hundred by two figures -/
def two (n : Nat) : Str := ⟨#[48 + n / 10, 48 + n % 10]⟩
section
variable {prog : Program} {w : World} {A : Around} {E : Value → Shared → Prop} {s : Shared}
theorem field_02 {n : Nat} (hn : n < 60) {t : Tok} {Q : Value → Shared → Prop} (h : ∀ t' k, Q (.str (two n) t') { s with toks := k }) : wpAny (model prog w) A (formatField (.int (n : Nat) t) "02d") Q E s := by
  have c : n = 0 ∨ n = 1 ∨ n = 2 ∨ n = 3 ∨ n = 4 ∨ n = 5 ∨ n = 6 ∨ n = 7 ∨ n = 8 ∨ n = 9 ∨ n = 10 ∨ n = 11 ∨ n = 12 ∨ n = 13 ∨ n = 14 ∨ n = 15 ∨ n = 16 ∨ n = 17 ∨ n = 18 ∨ n = 19 ∨ n = 20 ∨ n = 21 ∨ n = 22 ∨ n = 23 ∨ n = 24 ∨ n = 25 ∨ n = 26 ∨ n = 27 ∨ n = 28 ∨ n = 29 ∨ n = 30 ∨ n = 31 ∨ n = 32 ∨ n = 33 ∨ n = 34 ∨ n = 35 ∨ n = 36 ∨ n = 37 ∨ n = 38 ∨ n = 39 ∨ n = 40 ∨ n = 41 ∨ n = 42 ∨ n = 43 ∨ n = 44 ∨ n = 45 ∨ n = 46 ∨ n = 47 ∨ n = 48 ∨ n = 49 ∨ n = 50 ∨ n = 51 ∨ n = 52 ∨ n = 53 ∨ n = 54 ∨ n = 55 ∨ n = 56 ∨ n = 57 ∨ n = 58 ∨ n = 59 := by omega
  rcases c with rfl | rfl | rfl | rfl | rfl | rfl | rfl | rfl | rfl | rfl | rfl | rfl | rfl | rfl | rfl | rfl | rfl | rfl | rfl | rfl | rfl | rfl | rfl | rfl | rfl | rfl | rfl | rfl | rfl | rfl | rfl | rfl | rfl | rfl | rfl | rfl | rfl | rfl | rfl | rfl | rfl | rfl | rfl | rfl | rfl | rfl | rfl | rfl | rfl | rfl | rfl | rfl | rfl | rfl | rfl | rfl | rfl | rfl | rfl | rfl
  all_goals (refine KXf.field_int (spec' := "02d") rfl (by decide +kernel) (by decide +kernel) ?_ h; kxf_run_i)
end
section
variable {X : Cx}
/-- {x:02d} of a number below sixty -/
def tFmt02 (te : TE) : TE := fun σ H Q => te σ H fun x H1 => ∃ n : Nat, x = .int (n : Nat) ∧ n < 60 ∧ Q (.str (two n)) H1
theorem pe_fmt02 {e sp : Expr} {te : TE} {pos : Pos} (he : PE X e te) (hs : PE X sp (tC (.str "02d"))) : PE X (.FormattedValue e (-1) (some sp) pos) (tFmt02 te) := by
  refine ⟨fun pins s σ H Q I h => ?_⟩
  refine wpAny_FormattedValue_spec (thn (he.run pins s σ H _ I h) fun v s1 hv => ?_)
  obtain ⟨x, H1, I1, r1, n, rfl, hn, q⟩ := hv
  obtain ⟨t, rfl⟩ := r1
  refine thn (hs.run pins s1 σ H1 (fun x H2 => x = .str "02d" ∧ H2 = H1) I1 ⟨rfl, rfl⟩) fun r s2 hr => ?_
  obtain ⟨y, H2, I2, r2, rfl, rfl⟩ := hr
  obtain ⟨t2, rfl⟩ := r2
  exact ⟨_, _, rfl, field_02 hn fun t' k => ⟨.str (two n), H2, I2.tok _, ⟨_, rfl⟩, q⟩⟩
def tJoined (ts : List TE) : TE := fun σ H Q => tJs ts Str.empty σ H fun out H1 => Q (.str out) H1
theorem pe_joinedU {v1 v2 : Expr} {rest : List Expr} {ts : List TE} {pos : Pos} (h : PJ X (v1 :: v2 :: rest) ts) : PE X (.JoinedStr (v1 :: v2 :: rest) pos) (tJoined ts) := pe_joined h
/-- partition -/
def uPartition : V → List V → Hp → VK → Prop := fun x xs H Q => ∃ a b, x = .str a ∧ xs = [.str b] ∧ (b.length == 0) = false ∧ a.length ≤ sizeLine ∧
  ∀ p, H p = none → Q (.ref p) (upd H p (.tup [.str (Txt.partition a b).1, .str (Txt.partition a b).2.1, .str (Txt.partition a b).2.2]))
theorem pe_uPartition {o e : Expr} {to te : TE} {apos pos : Pos} (ho : PE X o to) (he : PE X e te) (hs : starEach [e] X.env = [(false, eval e X.env)] := by rfl) (hbase : attributeBase o "partition" X.env (eval o X.env) = eval o X.env := by rfl) (hline : (apos.endLine == pos.line) = true := by rfl) :
    PE X (.Call (.Attribute o "partition" apos) [e] [] pos) (tM1 uPartition to te) := pe_partition ho he hs hbase hline
/-- int(text) -/
def uIntS : List V → Hp → VK → Prop := fun xs H Q => ∃ a n, xs = [.str a] ∧ PySem.intText? a = some n ∧ a.length ≤ 640 ∧ Q (.int n) H
theorem call_uIntS : CallR X (.type "int") uIntS := call_int_str
end
end Wg

/-! Wagon, part 34: divmod. -/
namespace Wg
open PySem PySem.Spec PyProof.Rows L2
def uDivmod : List V → Hp → VK → Prop := fun xs H Q => ∃ i j, xs = [.int i, .int j] ∧ CDiv i j ∧ ∀ p, H p = none → Q (.ref p) (upd H p (.tup [.int (i / j), .int (i % j)]))
theorem call_uDivmod {X : Cx} : CallR X (.builtin "divmod") uDivmod := call_divmod
end Wg

/-! Wagon, part 35: < of texts. -/
namespace Wg
open PySem PySem.Spec PyProof.Rows L2
def uLtS : V → V → Hp → VK → Prop := fun x y H Q => ∃ i j, x = .str i ∧ y = .str j ∧ Q (.bl (decide (i.cps.toList < j.cps.toList))) H
theorem op_uLtS {X : Cx} : OpR X (compareOp .Lt) uLtS := op_lt_str
end Wg

/-! Wagon, part 36: repr of a tuple of data in which empty dicts may stand, at any depth. -/
namespace Wg
open PySem PySem.Spec PyProof.Rows L2
mutual
/-- data whose lists are the law's own, with empty dicts -/
inductive Dq (K : PySem.W.Frag) (H : Hp) : V → PyData → Prop
  | dp {v : V} {d : PyData} : Dp K H v d → Dq K H v d
  | lst {a : Addr} {xs : List V} {ds : List PyData} : H a = some (.lst xs) → DqAll K H xs ds → Dq K H (.ref a) (.list ds)
  | tup {a : Addr} {xs : List V} {ds : List PyData} : Tup H a xs → DqAll K H xs ds → Dq K H (.ref a) (.tuple ds)
  | dic {a : Addr} : H a = some (.dK []) → Dq K H (.ref a) (.dict [])
inductive DqAll (K : PySem.W.Frag) (H : Hp) : List V → List PyData → Prop
  | nil : DqAll K H [] []
  | cons {v : V} {vs : List V} {d : PyData} {ds : List PyData} : Dq K H v d → DqAll K H vs ds → DqAll K H (v :: vs) (d :: ds)
end
/-- what the heap tells of one value, of a row of them -/
structure Told (P : Program) (w : World) (h : Heap) (v : Value) (d : PyData) : Prop where
  r : ∃ as, Reads h v d as
  k : d.showable = true → d.shown.length ≤ sizeLine → ∃ bs, ReadAtMost h d.depth bs ∧ ReprK P w bs h d.depth v d.shown
structure ToldAll (P : Program) (w : World) (h : Heap) (vs : List Value) (ds : List PyData) : Prop where
  r : ∃ as, ReadsAll h vs ds as
  k : PyData.showableAll ds = true → (∀ t ∈ PyData.shownAll ds, t.length ≤ sizeLine) → ∃ bs, ReadAtMost h (PyData.depthAll ds) bs ∧ ReprAllK P w bs h (PyData.depthAll ds) vs (PyData.shownAll ds)
section
variable {P : Program} {w : World} {h : Heap}
theorem ToldAll.none : ToldAll P w h [] [] := ⟨⟨_, .nil⟩, fun _ _ => ⟨[], (fun _ z => nomatch z), by simp only [PyData.shownAll]; exact .nil⟩⟩
theorem ToldAll.more {v : Value} {vs : List Value} {d : PyData} {ds : List PyData} (a : Told P w h v d) (b : ToldAll P w h vs ds) : ToldAll P w h (v :: vs) (d :: ds) := by
  obtain ⟨as, ra⟩ := a.r
  obtain ⟨bs, rb⟩ := b.r
  refine ⟨⟨_, .cons ra rb⟩, fun hs hz => ?_⟩
  rw [show PyData.showableAll (d :: ds) = (d.showable && PyData.showableAll ds) by simp only [PyData.showableAll], Bool.and_eq_true] at hs
  have es : PyData.shownAll (d :: ds) = d.shown :: PyData.shownAll ds := by simp only [PyData.shownAll]
  have ed : PyData.depthAll (d :: ds) = max d.depth (PyData.depthAll ds) := by simp only [PyData.depthAll]
  rw [es] at hz ⊢
  rw [ed]
  obtain ⟨x, hx, kx⟩ := a.k hs.1 (hz _ List.mem_cons_self)
  obtain ⟨y, hy, ky⟩ := b.k hs.2 fun t ht => hz t (List.mem_cons_of_mem _ ht)
  exact ⟨x ++ y, (hx.mono (Nat.le_max_left _ _)).append (hy.mono (Nat.le_max_right _ _)), .cons ((kx.more fun b hb => List.mem_append_left _ hb).level_le (Nat.le_max_left _ _)) (ky.more_le (fun b hb => List.mem_append_right _ hb) (Nat.le_max_right _ _))⟩
theorem Told.list {a : Addr} {o : Obj} {n : Nat} {its : List Value} {ds : List PyData} (e : h.get? a = some o) (c : o.cls = .type "list") (dd : o.data = .seq its.toArray n) (t : ToldAll P w h its ds) : Told P w h (.ref a) (.list ds) := by
  obtain ⟨as, ra⟩ := t.r
  have r : Reads h (.ref a) (.list ds) (a :: as) := .list e c dd ra
  refine ⟨⟨_, r⟩, fun hs hz => ?_⟩
  have eD : (PyData.list ds).depth = PyData.depthAll ds + 1 := by simp only [PyData.depth]
  have eS : (PyData.list ds).shown = listText (PyData.shownAll ds) := by simp only [PyData.shown]
  rw [eS] at hz ⊢
  obtain ⟨bs, hb, hk⟩ := t.k (by simpa only [PyData.showable] using hs) fun x hx => Nat.le_trans (listText_mem_le hx) hz
  have hna : a ∉ bs := not_mem_of_deeper r (by rw [eD]; omega) hb
  refine ⟨a :: bs, ReadAtMost.cons r (by rw [eD]; omega) hb, ?_⟩
  rw [eD]
  cases its with
  | nil =>
    cases ra
    rw [show PyData.shownAll [] = [] by simp only [PyData.shownAll], listText_nil]
    exact ReprK.listEmpty e c dd
  | cons x l => exact ReprK.list e c dd hna (by simpa using hk.length_eq) fun i y q => hk.item i y (by simpa using q)
theorem Told.tuple {a : Addr} {o : Obj} {n : Nat} {its : List Value} {ds : List PyData} (e : h.get? a = some o) (c : o.cls = .type "tuple") (dd : o.data = .seq its.toArray n) (t : ToldAll P w h its ds) : Told P w h (.ref a) (.tuple ds) := by
  obtain ⟨as, ra⟩ := t.r
  have r : Reads h (.ref a) (.tuple ds) as := .tuple e c dd ra
  refine ⟨⟨_, r⟩, fun hs hz => ?_⟩
  have eD : (PyData.tuple ds).depth = PyData.depthAll ds + 1 := by simp only [PyData.depth]
  have eS : (PyData.tuple ds).shown = tupleText (PyData.shownAll ds) := by simp only [PyData.shown]
  rw [eS] at hz ⊢
  obtain ⟨bs, hb, hk⟩ := t.k (by simpa only [PyData.showable] using hs) fun x hx => Nat.le_trans (tupleText_mem_le hx) hz
  have hna : a ∉ bs := not_mem_of_deeper r (by rw [eD]; omega) hb
  refine ⟨a :: bs, ReadAtMost.cons r (by rw [eD]; omega) hb, ?_⟩
  rw [eD]
  exact ReprK.tuple e c dd hna hk
end
section
variable {X : Cx} {pins : List (Addr × Obj)} {σ : L2.St} {H : Hp} {s : Shared}
theorem told_dp (I : Inv X pins σ H s) {v : V} {d : PyData} {u : Value} (h : Dp X.K H v d) (r : RelV v u) : Told X.prog X.w s.heap u d := by
  obtain ⟨as, rd⟩ := Dp.reads I d v u h r
  exact ⟨⟨_, rd⟩, fun hs hz => ReprK.of_reads rd hs (PyData.noDict_hsm (dp_noDict h)) hz⟩
theorem told_dic (I : Inv X pins σ H s) {a : Addr} (h : H a = some (.dK [])) : Told X.prog X.w s.heap (.ref a) (.dict []) := by
  obtain ⟨z, hsy, ws, kv, o, es, ep, ho, ex, hdat, _, hp, _⟩ := I.hok a _ h
  obtain ⟨r1, r2⟩ := pairs_reads (K := X.K) I hp kv (ds := []) .nil
  have rd : Reads s.heap (.ref a) (PyData.dict []) (a :: [] ++ []) := .dict ho ex.1 hdat r1 r2
  refine ⟨⟨_, rd⟩, fun hs hz => ReprK.of_reads rd hs (fun _ hm => ?_) hz⟩
  have e : sysModules = a := by simpa using hm
  rw [e] at hsy
  simp at hsy
mutual
theorem Dq.told (I : Inv X pins σ H s) : ∀ (d : PyData) (v : V) (u : Value), Dq X.K H v d → RelV v u → Told X.prog X.w s.heap u d
  | .list ds, _, _, h, r => by
    cases h with
    | dp h => exact told_dp I h r
    | lst hs ha =>
      cases r
      obtain ⟨its, rv, ⟨o, n, ho, hc, _, hd⟩, _⟩ := I.list (lst_sq (K := X.K) hs)
      exact Told.list ho hc hd (DqAll.told I ds _ its ha rv)
  | .tuple ds, _, _, h, r => by
    cases h with
    | dp h => exact told_dp I h r
    | tup hs ha =>
      cases r
      obtain ⟨its, n, rv, _, ho⟩ := hs.obj I
      exact Told.tuple ho rfl rfl (DqAll.told I ds _ its ha rv)
  | .dict _, _, _, h, r => by
    cases h with
    | dp h => exact told_dp I h r
    | dic e => cases r; exact told_dic I e
  | .none, _, _, h, r => by cases h with | dp h => exact told_dp I h r
  | .bool _, _, _, h, r => by cases h with | dp h => exact told_dp I h r
  | .int _, _, _, h, r => by cases h with | dp h => exact told_dp I h r
  | .str _, _, _, h, r => by cases h with | dp h => exact told_dp I h r
theorem DqAll.told (I : Inv X pins σ H s) : ∀ (ds : List PyData) (vs : List V) (us : List Value), DqAll X.K H vs ds → Vals vs us → ToldAll X.prog X.w s.heap us ds
  | [], _, _, h, r => by
    cases h
    cases r
    exact ToldAll.none
  | d :: ds, _, _, h, r => by
    cases h with
    | cons h1 h2 =>
      cases r with
      | cons r1 r2 => exact ToldAll.more (Dq.told I d _ _ h1 r1) (DqAll.told I ds _ _ h2 r2)
end
end
/-- repr of a tuple of such data -/
def uReprQ (K : PySem.W.Frag) : List V → Hp → VK → Prop := fun xs H Q => ∃ (a : Addr) (vs : List V) (ds : List PyData), xs = [.ref a] ∧ Tup H a vs ∧ DqAll K H vs ds ∧ fine (.tuple ds) ∧ (PyData.tuple ds).depth ≤ 100 ∧ cost (.tuple ds) ≤ 10000000 ∧ Q (.str (PyData.tuple ds).shown) H
theorem call_uReprQ {X : Cx} (hr : Rm 1 X.A) : CallR X (.builtin "repr") (uReprQ X.K) := by
  intro pins s σ H xs us Q I r h
  obtain ⟨a, vs, ds, rfl, ht, hd, hf, hdep, hz, q⟩ := h
  obtain ⟨u, rfl, rx⟩ := vals1 r
  cases rx
  obtain ⟨its, n, rv, _, ho⟩ := ht.obj I
  have t := DqAll.told I ds _ its hd rv
  have hu : X.A.units + ((PyData.tuple ds).depth + 1) < cLine := by
    have := hr.rm.un
    omega
  have eS : (PyData.tuple ds).shown = tupleText (PyData.shownAll ds) := by simp only [PyData.shown]
  have eD : (PyData.tuple ds).depth = PyData.depthAll ds + 1 := by simp only [PyData.depth]
  have hs := fine_show hf
  have hz' : (PyData.tuple ds).shown.length ≤ sizeLine := Nat.le_trans (shown_le hf) (line_big hz)
  rw [eS] at hz'
  obtain ⟨as, ra⟩ := t.r
  obtain ⟨bs, hb, hk⟩ := t.k (by simpa only [PyData.showable] using hs) fun x hx => Nat.le_trans (tupleText_mem_le hx) hz'
  have rr : Reads s.heap (.ref a) (.tuple ds) as := .tuple ho rfl rfl ra
  have hna : a ∉ bs := not_mem_of_deeper rr (by rw [eD]; omega) hb
  refine call_repr_slot (T := "tuple") (idr := "tuple.__repr__") (by omega) ⟨_, ho, rfl⟩ F.slot_tuple_repr (call_tuple_reprK ho rfl rfl hna hk hr.gd (fun b _ => Clear.nil b) (by show X.A.units + 1 + _ < cLine; omega) (fun _ _ e => e) (fun h' u tk hkp => ⟨_, _, rfl, ?_⟩) hz')
  rw [← eS]
  exact ⟨.str _, H, I.kept (t' := tk) hkp, ⟨_, rfl⟩, q⟩
end Wg

namespace Wg
open PySem PySem.Spec PyProof.Rows L2
def topS (i : Nat) : Stmt := PySem.Challenge.pw_wagoncalls_k31_what_plans_are.main.body.getD i (.Pass ⟨0, 0, 0, 0⟩)
/-! wagoncalls_k31_what_plans_are: the text and the derivations, written by gen.py -/
abbrev s__is_move_ : Stmt := topS 2
abbrev N__is_move : List Str := ["rows", "thing", "wagon", "post", "can"]
theorem sc__is_move : FnScope N__is_move ["rows", "thing"] (defScope s__is_move_) := ⟨rfl, rfl, rfl, by decide +kernel, rfl, by decide +kernel, by decide +kernel⟩
def t__is_move_r1 (K : PySem.W.Frag) (P__is_move : Addr) : TS :=
  tRet (tGen P__is_move (iU K (tVar 0)) (gTup K 3 (gCons (gName 2) (gCons (gName 3) (gCons (gName 4) (gNil))))) (tYes) (tAndT K (tOp (uEq K false) (tOp (uIx K) (tVar 1) (tC (.int 0))) (tVar 2)) (tAndT K (tOp (uIn K false) (tOp (uIx K) (tVar 1) (tC (.int 1))) (tVar 4)) (tOp (uEq K true) (tOp (uIx K) (tVar 1) (tC (.int 1))) (tVar 3)))) [2, 3, 4] true)
def t__is_move (K : PySem.W.Frag) (P__is_move : Addr) : TS :=
  tSeq (tIfS (tOr (tNot (tTru K (tCB (rIsi K) (tCons (tVar 1) (tCons (tC (.ty "tuple")) (tNil)))))) (tTest (tOp (uEq K true) (tCB (uLen K) (tCons (tVar 1) (tNil))) (tC (.int 2))))) (tRet (tC (.bl false))) (tNext)) (t__is_move_r1 K P__is_move)
theorem dv__is_move {P : Program} {w : World} {K : PySem.W.Frag} {mg : Str → Option Value} {b : Heap} {a : Addr} {d : FuncData} {sp : Sp} (F : Fn K mg "_is_move" s__is_move_ a d ["rows", "thing"])
    {tc__is_move P__is_move : Addr} (hcd : d.code = .ref tc__is_move) (TB : GxR.TabB b mg tc__is_move P__is_move)
    (n_isinstance : mg "isinstance" = none)
    (n_tuple : mg "tuple" = none)
    (n_len : mg "len" = none)
    (n_any : mg "any" = none)
    (len : ∀ vs H Q E, sp vs H Q E → vs.length = 2)
    (rd : ∀ vs H Q E, sp vs H Q E → run (t__is_move K P__is_move) (start N__is_move vs) H Q) : Keeps P w K mg b CX0 3 a d ["rows", "thing"] sp := by
  refine keepsT F.fn hcd sc__is_move len fun A o s H vs Q E hr h => ⟨t__is_move K P__is_move, ?_, rd vs H Q E h⟩
  unfold t__is_move t__is_move_r1
  exact (pss_cons (ps_if (PW.pt (pw_or (pt_not (pt_tru (pe_callB call_isi (by rfl) n_isinstance (by decide +kernel) (pa_cons (pv 1) (pa_cons (pe_bltn (v := .ty "tuple") (by rfl) n_tuple (by decide +kernel) rfl) pa_nil))))) (pw_or1 (pt_cmpR (op_uNe hr.rm.units) (pe_callB call_uLen (by rfl) n_len (by decide +kernel) (pa_cons (pv 1) pa_nil)) pe_int (nomark _))))) (pss_one (ps_ret pe_bl)) pss_nil)
  (pss_one (ps_ret (pe_anyG (own := [("wagon", 2), ("post", 3), ("can", 4)]) hr TB (by rfl) rfl sc__is_move.nd ⟨blkOk_by (own := [("wagon", 2), ("post", 3), ("can", 4)]) (N := N__is_move) (sc := defScope s__is_move_) (by decide +kernel), by decide +kernel, by rfl, by rfl⟩ (by rfl) n_any (pi_u (pv 0)) (fun _ _ _ _ _ _ hr => (pg_tup rfl (pgs_cons (pg_name (i := 2) sc__is_move.nd rfl (.inl rfl)) (pgs_cons (pg_name (i := 3) sc__is_move.nd rfl (.inl rfl)) (pgs_cons (pg_name (i := 4) sc__is_move.nd rfl (.inl rfl)) pgs_nil))))) (fun _ _ _ _ _ _ _ => pts_nil) (fun _ _ _ _ _ _ hr => (pe_andT (pe_cmpR (op_uEq hr.rm.units) (pe_ix ix_u (pv 1) pe_int (fun _ _ => rfl)) (pv 2) (nomark _)) (pe_andT (pe_cmpR op_uIn (pe_ix ix_u (pv 1) pe_int (fun _ _ => rfl)) (pv 4) rfl) (pe_one (pe_cmpR (op_uNe hr.rm.units) (pe_ix ix_u (pv 1) pe_int (fun _ _ => rfl)) (pv 3) (nomark _))))))))))

abbrev s_is_plan_ : Stmt := topS 1
abbrev N_is_plan : List Str := ["town", "rows", "thing", "wagons", "move", "wagon", "later"]
theorem sc_is_plan : FnScope N_is_plan ["town", "rows", "thing"] (defScope s_is_plan_) := ⟨rfl, rfl, rfl, by decide +kernel, rfl, by decide +kernel, by decide +kernel⟩
def t_is_plan_r1 (K : PySem.W.Frag) (s__is_move : Sp) (P_is_plan : Addr) : TS :=
  tSeq (tAsg (tLc (iU K (tVar 2)) (gName 4) (tYes) (tOp (uIx K) (tVar 4) (tC (.int 0))) [4]) (gName 3)) (tRet (tCB (rAll K) (tCons (tLc (RZ.iZipA K (tCons (tVar 3) (tCons (tSl (uSl K) (tVar 3) (tPart (tC (.int 1))) (tNoPart)) (tNil)))) (gTup K 2 (gCons (gName 5) (gCons (gName 6) (gNil)))) (tYes) (tOp uLtS (tVar 5) (tVar 6)) [5, 6]) (tNil))))
def t_is_plan (K : PySem.W.Frag) (s__is_move : Sp) (P_is_plan : Addr) : TS :=
  tSeq (tIfS (tOr (tNot (tTru K (tCB (rIsi K) (tCons (tVar 2) (tCons (tC (.ty "list")) (tNil)))))) (tNot (tTru K (tGen P_is_plan (iU K (tVar 2)) (gName 4) (tYes) (tGo s__is_move E0 (tCons (tVar 1) (tCons (tVar 4) (tNil)))) [4] false)))) (tRet (tC (.bl false))) (tNext)) (t_is_plan_r1 K s__is_move P_is_plan)
theorem dv_is_plan {P : Program} {w : World} {K : PySem.W.Frag} {mg : Str → Option Value} {b : Heap} {a : Addr} {d : FuncData} {sp : Sp} (F : Fn K mg "is_plan" s_is_plan_ a d ["town", "rows", "thing"])
    {tc_is_plan P_is_plan : Addr} (hcd : d.code = .ref tc_is_plan) (TB : GxR.TabB b mg tc_is_plan P_is_plan)
    (n_isinstance : mg "isinstance" = none)
    (n_list : mg "list" = none)
    (n_all : mg "all" = none)
    {a__is_move : Addr} {d__is_move : FuncData} {s__is_move : Sp} (F__is_move : Fn K mg "_is_move" s__is_move_ a__is_move d__is_move ["rows", "thing"]) (k__is_move : Keeps P w K mg b CX0 3 a__is_move d__is_move ["rows", "thing"] s__is_move)
    (n_zip : mg "zip" = none)
    (len : ∀ vs H Q E, sp vs H Q E → vs.length = 3)
    (rd : ∀ vs H Q E, sp vs H Q E → run (t_is_plan K s__is_move P_is_plan) (start N_is_plan vs) H Q) : Keeps P w K mg b CX0 5 a d ["town", "rows", "thing"] sp := by
  refine keepsT F.fn hcd sc_is_plan len fun A o s H vs Q E hr h => ⟨t_is_plan K s__is_move P_is_plan, ?_, rd vs H Q E h⟩
  unfold t_is_plan t_is_plan_r1
  exact (pss_cons (ps_if (PW.pt (pw_or (pt_not (pt_tru (pe_callB call_isi (by rfl) n_isinstance (by decide +kernel) (pa_cons (pv 2) (pa_cons (pe_bltn (v := .ty "list") (by rfl) n_list (by decide +kernel) rfl) pa_nil))))) (pw_or1 (pt_not (pt_tru (pe_allG (own := [("move", 4)]) hr TB (by rfl) rfl sc_is_plan.nd ⟨blkOk_by (own := [("move", 4)]) (N := N_is_plan) (sc := defScope s_is_plan_) (by decide +kernel), by decide +kernel, by rfl, by rfl⟩ (by rfl) n_all (pi_u (pv 2)) (fun _ _ _ _ _ _ hr => (pg_name (i := 4) sc_is_plan.nd rfl (.inl rfl))) (fun _ _ _ _ _ _ _ => pts_nil) (fun _ _ _ _ _ _ hr => (pe_go k__is_move (hr.mono (by decide)) rfl F__is_move.g F__is_move.fn.kp F__is_move.b pass0 (pa_cons (pv 1) (pa_cons (pv 4) pa_nil)))))))))) (pss_one (ps_ret pe_bl)) pss_nil)
  (pss_cons (ps_setLc (i := 3) (own := [("move", 4)]) rfl sc_is_plan.nd rfl rfl (sw_true rfl rfl rfl (by decide +kernel)) (pi_u (pv 2)) (blkOk_by (own := [("move", 4)]) (N := N_is_plan) (sc := defScope s_is_plan_) (by decide +kernel)) (fun _ _ _ _ _ => (pg_name (i := 4) sc_is_plan.nd rfl (.inl rfl))) (fun _ _ _ _ _ => pts_nil) (fun _ _ _ _ _ => (pe_ix ix_u (pv 4) pe_int (fun _ _ => rfl))))
  (pss_one (ps_ret (pe_callB (cr_all rfl) (by rfl) n_all (by decide +kernel) (pa_cons (pe_lc (own := [("wagon", 5), ("later", 6)]) rfl sc_is_plan.nd (RZ.pi_zipA (by rfl) n_zip (pa_cons (pv 3) (pa_cons (pe_slice sl_u (pv 3) (po_some pe_int) po_none) pa_nil))) (blkOk_by (own := [("wagon", 5), ("later", 6)]) (N := N_is_plan) (sc := defScope s_is_plan_) (by decide +kernel)) (fun _ _ _ _ _ => (pg_tup rfl (pgs_cons (pg_name (i := 5) sc_is_plan.nd rfl (.inl rfl)) (pgs_cons (pg_name (i := 6) sc_is_plan.nd rfl (.inl rfl)) pgs_nil)))) (fun _ _ _ _ _ => pts_nil) (fun _ _ _ _ _ => (pe_cmpR op_uLtS (pv 5) (pv 6) (nomark _)))) pa_nil))))))

abbrev s__law_held_ : Stmt := topS 4
abbrev N__law_held : List Str := ["script"]
theorem sc__law_held : FnScope N__law_held ["script"] (defScope s__law_held_) := ⟨rfl, rfl, rfl, by decide +kernel, rfl, by decide +kernel, by decide +kernel⟩
def t__law_held (K : PySem.W.Frag) : TS :=
  tRet (tDisp ((tC (.str "cells"), tCB (uList K) (tCons (tSl (uSl K) (tVar 0) (tNoPart) (tPart (tC (.int 63)))) (tNil))) :: ((tC (.str "at"), tC (.int 0)) :: ((tC (.str "left"), tC (.int 0)) :: []))))
theorem dv__law_held {P : Program} {w : World} {K : PySem.W.Frag} {mg : Str → Option Value} {b : Heap} {a : Addr} {d : FuncData} {sp : Sp} (F : Fn K mg "_law_held" s__law_held_ a d ["script"])
    (n_list : mg "list" = none)
    (len : ∀ vs H Q E, sp vs H Q E → vs.length = 1)
    (rd : ∀ vs H Q E, sp vs H Q E → run (t__law_held K) (start N__law_held vs) H Q) : Keeps P w K mg b CX0 2 a d ["script"] sp := by
  refine keeps0 F.fn sc__law_held len fun cdv A o s H vs Q E hr h => ⟨t__law_held K, ?_, rd vs H Q E h⟩
  unfold t__law_held 
  exact (pss_one (ps_ret (pe_disp (pps_cons pe_str (pe_callTy call_uList (by rfl) n_list (by decide +kernel) (pa_cons (pe_slice sl_u (pv 0) po_none (po_some pe_int)) pa_nil)) (pps_cons pe_str pe_int (pps_cons pe_str pe_int pps_nil))) (by rfl) (by rfl) (fun z => by cases z) (by decide))))

abbrev s__law_draw_ : Stmt := topS 5
abbrev N__law_draw : List Str := ["held", "many", "found", "at", "cell", "number"]
theorem sc__law_draw : FnScope N__law_draw ["held", "many"] (defScope s__law_draw_) := ⟨rfl, rfl, rfl, by decide +kernel, rfl, by decide +kernel, by decide +kernel⟩
def t__law_draw_r1 (K : PySem.W.Frag) : TS :=
  tSeq (tAsg (tOp (rI (fun _ j => 0 < j) fun i j => .int (i % j)) (tOp (uAdd K) (tOp (uAdd K) (tOp (uAdd K) (tOp uMul (tOp (rI (fun _ j => 0 < j) fun i j => .int (i % j)) (tVar 4) (tC (.int 2147483587))) (tC (.int 40692))) (tOp uMul (tOp uMul (tC (.int 7907)) (tVar 3)) (tVar 3))) (tOp uMul (tC (.int 104729)) (tVar 3))) (tC (.int 17))) (tC (.int 2147483629))) (gName 5)) (tSeq (tAsg (tOp (rI (fun _ j => 0 < j) fun i j => .int (i % j)) (tOp (uAdd K) (tOp (uAdd K) (tOp uMul (tVar 5) (tC (.int 48271))) (tOp (rI CDiv fun i j => .int (i / j)) (tVar 5) (tC (.int 127)))) (tC (.int 31))) (tC (.int 2147483647))) (gName 5)) (tRet (tOp (rI (fun _ j => 0 < j) fun i j => .int (i % j)) (tOp (rI CDiv fun i j => .int (i / j)) (tVar 5) (tC (.int 89))) (tVar 1))))
def t__law_draw_r2 (K : PySem.W.Frag) : TS :=
  tSeq (tAsg (tDGet (tVar 0) (tC (.str "at"))) (gName 3)) (tSeq (sDPut (tVar 0) (tC (.str "at")) (tOp (uAdd K) (tVar 3) (tC (.int 1)))) (tSeq (tAsg (tIf (tTest (tOp (uEq K true) (tDGet (tVar 0) (tC (.str "cells"))) (tLstU (tNil)))) (tOp (uIx K) (tDGet (tVar 0) (tC (.str "cells"))) (tOp (rI (fun _ j => 0 < j) fun i j => .int (i % j)) (tVar 3) (tCB (uLen K) (tCons (tDGet (tVar 0) (tC (.str "cells"))) (tNil))))) (tC (.int 0))) (gName 4)) (tSeq (tIfS (tAnd (tTest (tOp (rI0 fun i j => .bl (decide (j ≤ i))) (tVar 4) (tOp (rI CPow fun i j => .int (i ^ j.toNat)) (tC (.int 10)) (tC (.int 18))))) (tTest (tOp (rI0 fun i j => .bl (decide (i < j))) (tVar 3) (tCB (uLen K) (tCons (tDGet (tVar 0) (tC (.str "cells"))) (tNil)))))) (tSeq (sDPut (tVar 0) (tC (.str "left")) (tOp (rI CDiv fun i j => .int (i / j)) (tOp (rI0 fun i j => .int (i - j)) (tVar 4) (tOp (rI CPow fun i j => .int (i ^ j.toNat)) (tC (.int 10)) (tC (.int 18)))) (tVar 1))) (tRet (tOp (rI (fun _ j => 0 < j) fun i j => .int (i % j)) (tOp (rI0 fun i j => .int (i - j)) (tVar 4) (tOp (rI CPow fun i j => .int (i ^ j.toNat)) (tC (.int 10)) (tC (.int 18)))) (tVar 1)))) (tNext)) (t__law_draw_r1 K))))
def t__law_draw (K : PySem.W.Frag) : TS :=
  tSeq (tIfS (tTest (tOp (rI0 fun i j => .bl (decide (j < i))) (tDGet (tVar 0) (tC (.str "left"))) (tC (.int 0)))) (tSeq (tAsg (tOp (rI (fun _ j => 0 < j) fun i j => .int (i % j)) (tDGet (tVar 0) (tC (.str "left"))) (tVar 1)) (gName 2)) (tSeq (sDPut (tVar 0) (tC (.str "left")) (tOp (rI CDiv fun i j => .int (i / j)) (tDGet (tVar 0) (tC (.str "left"))) (tVar 1))) (tRet (tVar 2)))) (tNext)) (t__law_draw_r2 K)
theorem dv__law_draw {P : Program} {w : World} {K : PySem.W.Frag} {mg : Str → Option Value} {b : Heap} {a : Addr} {d : FuncData} {sp : Sp} (F : Fn K mg "_law_draw" s__law_draw_ a d ["held", "many"])
    (n_len : mg "len" = none)
    (len : ∀ vs H Q E, sp vs H Q E → vs.length = 2)
    (rd : ∀ vs H Q E, sp vs H Q E → run (t__law_draw K) (start N__law_draw vs) H Q) : Keeps P w K mg b CX0 2 a d ["held", "many"] sp := by
  refine keeps0 F.fn sc__law_draw len fun cdv A o s H vs Q E hr h => ⟨t__law_draw K, ?_, rd vs H Q E h⟩
  unfold t__law_draw t__law_draw_r2 t__law_draw_r1
  exact (pss_cons (ps_if (pt_cmpR op_gt (pe_dget (hu_of hr.rm) (pv 0) pe_str (fun _ _ => rfl)) pe_int (nomark _)) (pss_cons (ps_set (i := 2) sc__law_draw.nd rfl (.inl rfl) (pe_op op_mod (pe_dget (hu_of hr.rm) (pv 0) pe_str (fun _ _ => rfl)) (pv 1)))
  (pss_cons (ps_dput (hu_of hr.rm) (pv 0) pe_str (pe_op op_fdiv (pe_dget (hu_of hr.rm) (pv 0) pe_str (fun _ _ => rfl)) (pv 1)) rfl)
  (pss_one (ps_ret (pv 2))))) pss_nil)
  (pss_cons (ps_set (i := 3) sc__law_draw.nd rfl (.inl rfl) (pe_dget (hu_of hr.rm) (pv 0) pe_str (fun _ _ => rfl)))
  (pss_cons (ps_dput (hu_of hr.rm) (pv 0) pe_str (pe_op op_uAdd (pv 3) pe_int) rfl)
  (pss_cons (ps_set (i := 4) sc__law_draw.nd rfl (.inl rfl) (pe_ifExp (pt_cmpR (op_uNe hr.rm.units) (pe_dget (hu_of hr.rm) (pv 0) pe_str (fun _ _ => rfl)) (pe_lstU pa_nil) (nomark _)) (pe_ix ix_u (pe_dget (hu_of hr.rm) (pv 0) pe_str (fun _ _ => rfl)) (pe_op op_mod (pv 3) (pe_callB call_uLen (by rfl) n_len (by decide +kernel) (pa_cons (pe_dget (hu_of hr.rm) (pv 0) pe_str (fun _ _ => rfl)) pa_nil))) (fun _ _ => rfl)) pe_int))
  (pss_cons (ps_if (PW.pt (pw_and (pt_cmpR op_ge (pv 4) (pe_op op_pow pe_int pe_int) (nomark _)) (pw_and1 (pt_cmpR op_lt (pv 3) (pe_callB call_uLen (by rfl) n_len (by decide +kernel) (pa_cons (pe_dget (hu_of hr.rm) (pv 0) pe_str (fun _ _ => rfl)) pa_nil)) (nomark _))))) (pss_cons (ps_dput (hu_of hr.rm) (pv 0) pe_str (pe_op op_fdiv (pe_op op_sub (pv 4) (pe_op op_pow pe_int pe_int)) (pv 1)) rfl)
  (pss_one (ps_ret (pe_op op_mod (pe_op op_sub (pv 4) (pe_op op_pow pe_int pe_int)) (pv 1))))) pss_nil)
  (pss_cons (ps_set (i := 5) sc__law_draw.nd rfl (.inl rfl) (pe_op op_mod (pe_op op_uAdd (pe_op op_uAdd (pe_op op_uAdd (pe_op op_uMul (pe_op op_mod (pv 4) pe_int) pe_int) (pe_op op_uMul (pe_op op_uMul pe_int (pv 3)) (pv 3))) (pe_op op_uMul pe_int (pv 3))) pe_int) pe_int))
  (pss_cons (ps_set (i := 5) sc__law_draw.nd rfl (.inl rfl) (pe_op op_mod (pe_op op_uAdd (pe_op op_uAdd (pe_op op_uMul (pv 5) pe_int) (pe_op op_fdiv (pv 5) pe_int)) pe_int) pe_int))
  (pss_one (ps_ret (pe_op op_mod (pe_op op_fdiv (pv 5) pe_int) (pv 1)))))))))))

abbrev s__law_some_ : Stmt := topS 6
abbrev N__law_some : List Str := ["held", "things", "many", "left", "found", "turn"]
theorem sc__law_some : FnScope N__law_some ["held", "things", "many"] (defScope s__law_some_) := ⟨rfl, rfl, rfl, by decide +kernel, rfl, by decide +kernel, by decide +kernel⟩
def t__law_some_b1 (K : PySem.W.Frag) (s__law_draw : Sp) : TS :=
  tDrop (tBM K "list" uAppend (tVar 4) (tCons (tBM K "list" uPopAt (tVar 3) (tCons (tGo s__law_draw E0 (tCons (tVar 0) (tCons (tCB (uLen K) (tCons (tVar 3) (tNil))) (tNil)))) (tNil))) (tNil)))
def t__law_some_r1 (K : PySem.W.Frag) (s__law_draw : Sp) : TS :=
  tRet (tVar 4)
def t__law_some (K : PySem.W.Frag) (s__law_draw : Sp) : TS :=
  tSeq (tAsg (tCB (uList K) (tCons (tVar 1) (tNil))) (gName 3)) (tSeq (tAsg (tLstU (tNil)) (gName 4)) (tSeq (tFor (iRng1 (tCons (tVar 2) (tNil))) (gName 5) (t__law_some_b1 K s__law_draw)) (t__law_some_r1 K s__law_draw)))
theorem dv__law_some {P : Program} {w : World} {K : PySem.W.Frag} {mg : Str → Option Value} {b : Heap} {a : Addr} {d : FuncData} {sp : Sp} (F : Fn K mg "_law_some" s__law_some_ a d ["held", "things", "many"])
    (n_list : mg "list" = none)
    (n_range : mg "range" = none)
    {a__law_draw : Addr} {d__law_draw : FuncData} {s__law_draw : Sp} (F__law_draw : Fn K mg "_law_draw" s__law_draw_ a__law_draw d__law_draw ["held", "many"]) (k__law_draw : Keeps P w K mg b CX0 2 a__law_draw d__law_draw ["held", "many"] s__law_draw)
    (n_len : mg "len" = none)
    (len : ∀ vs H Q E, sp vs H Q E → vs.length = 3)
    (rd : ∀ vs H Q E, sp vs H Q E → run (t__law_some K s__law_draw) (start N__law_some vs) H Q) : Keeps P w K mg b CX0 3 a d ["held", "things", "many"] sp := by
  refine keeps0 F.fn sc__law_some len fun cdv A o s H vs Q E hr h => ⟨t__law_some K s__law_draw, ?_, rd vs H Q E h⟩
  unfold t__law_some t__law_some_r1 t__law_some_b1
  exact (pss_cons (ps_set (i := 3) sc__law_some.nd rfl (.inl rfl) (pe_callTy call_uList (by rfl) n_list (by decide +kernel) (pa_cons (pv 1) pa_nil)))
  (pss_cons (ps_set (i := 4) sc__law_some.nd rfl (.inl rfl) (pe_lstU pa_nil))
  (pss_cons (ps_for PassesOwn.never rfl (pi_range1 (by rfl) n_range (pa_cons (pv 2) pa_nil)) (pg_name (i := 5) sc__law_some.nd rfl (.inl rfl)) (pss_one (ps_expr (pe_bm PySem.F.plainAttrs_list PySem.F.slot_list_append PySem.F.type_list_append mt_uAppend (pv 4) (pa_cons (pe_bm PySem.F.plainAttrs_list PySem.F.slot_list_pop PySem.F.type_list_pop mt_uPopAt (pv 3) (pa_cons (pe_go k__law_draw (hr.mono (by decide)) rfl F__law_draw.g F__law_draw.fn.kp F__law_draw.b pass0 (pa_cons (pv 0) (pa_cons (pe_callB call_uLen (by rfl) n_len (by decide +kernel) (pa_cons (pv 3) pa_nil)) pa_nil))) pa_nil)) pa_nil)))))
  (pss_one (ps_ret (pv 4))))))

abbrev s__law_names_ : Stmt := topS 7
abbrev N__law_names : List Str := ["held", "many", "signs", "size", "k", "base", "at", "begin", "step", "lot", "words", "found", "tail"]
theorem sc__law_names : FnScope N__law_names ["held", "many"] (defScope s__law_names_) := ⟨rfl, rfl, rfl, by decide +kernel, rfl, by decide +kernel, by decide +kernel⟩
def t__law_names_b1 (K : PySem.W.Frag) (s__law_draw : Sp) : TS :=
  tSeq (tAsg (tSl (uSl K) (tVar 5) (tPart (tVar 6)) (tPart (tOp (uAdd K) (tVar 6) (tOp (uIx K) (tLstU (tCons (tC (.int 8)) (tCons (tOp (rI (fun _ j => 0 < j) fun i j => .int (i % j)) (tVar 4) (tOp (uAdd K) (tOp (rI0 fun i j => .int (i - j)) (tVar 3) (tVar 6)) (tC (.int 1)))) (tNil)))) (tVar 9))))) (gName 12)) (tDrop (tBM K "list" uAppend (tVar 11) (tCons (tOp (uAdd K) (tOp (uAdd K) (tSl (uSl K) (tVar 5) (tNoPart) (tPart (tVar 6))) (tOp (uIx K) (tVar 2) (tOp (rI (fun _ j => 0 < j) fun i j => .int (i % j)) (tOp (uAdd K) (tVar 7) (tOp uMul (tVar 8) (tVar 4))) (tC (.int 26))))) (tVar 12)) (tNil))))
def t__law_names_r1 (K : PySem.W.Frag) (s__law_draw : Sp) : TS :=
  tRet (tVar 11)
def t__law_names_r2 (K : PySem.W.Frag) (s__law_draw : Sp) : TS :=
  tSeq (tAsg (tLstU (tNil)) (gName 11)) (tSeq (tFor (iRng1 (tCons (tVar 1) (tNil))) (gName 4) (t__law_names_b1 K s__law_draw)) (t__law_names_r1 K s__law_draw))
def t__law_names (K : PySem.W.Frag) (s__law_draw : Sp) : TS :=
  tSeq (tAsg (tC (.str "abcdefghijklmnopqrstuvwxyz0123456789")) (gName 2)) (tSeq (tAsg (tGo s__law_draw E0 (tCons (tVar 0) (tCons (tC (.int 8)) (tNil)))) (gName 3)) (tSeq (tAsg (tM1 (uJoin K) (tC (.str "")) (tLc (iRng1 (tCons (tVar 3) (tNil))) (gName 4) (tYes) (tOp (uIx K) (tVar 2) (tGo s__law_draw E0 (tCons (tVar 0) (tCons (tOp (uIx K) (tLstU (tCons (tC (.int 36)) (tCons (tC (.int 26)) (tNil)))) (tCB (uInt) (tCons (tOp (uEq K false) (tVar 4) (tC (.int 0))) (tNil)))) (tNil))))) [4])) (gName 5)) (tSeq (tAsg (tGo s__law_draw E0 (tCons (tVar 0) (tCons (tOp (uAdd K) (tVar 3) (tC (.int 1))) (tNil)))) (gName 6)) (tSeq (tAsg (tTupU (tCons (tGo s__law_draw E0 (tCons (tVar 0) (tCons (tC (.int 26)) (tNil)))) (tCons (tOp (uIx K) (tLstU (tCons (tC (.int 1)) (tCons (tC (.int 3)) (tCons (tC (.int 5)) (tCons (tC (.int 7)) (tCons (tC (.int 9)) (tCons (tC (.int 11)) (tCons (tC (.int 15)) (tCons (tC (.int 17)) (tNil)))))))))) (tGo s__law_draw E0 (tCons (tVar 0) (tCons (tC (.int 8)) (tNil))))) (tCons (tGo s__law_draw E0 (tCons (tVar 0) (tCons (tC (.int 2)) (tNil)))) (tNil))))) (gTup K 3 (gCons (gName 7) (gCons (gName 8) (gCons (gName 9) (gNil)))))) (tSeq (tAsg (tM1 uSplit (tC (.str "free to at bare by full cut off on call done grade open")) (tC (.str " "))) (gName 10)) (tSeq (tAsg (tOp (uAdd K) (tVar 10) (tM1 uSplit (tC (.str "shut told passed none twice many busy sent held moved there stands drives")) (tC (.str " ")))) (gName 10)) (tSeq (tIfS (tTest (tOp (uEq K false) (tGo s__law_draw E0 (tCons (tVar 0) (tCons (tC (.int 4)) (tNil)))) (tC (.int 0)))) (tRet (tLc (iRng1 (tCons (tVar 1) (tNil))) (gName 4) (tYes) (tOp (uIx K) (tVar 10) (tOp (rI (fun _ j => 0 < j) fun i j => .int (i % j)) (tOp (uAdd K) (tVar 7) (tOp uMul (tVar 8) (tVar 4))) (tC (.int 26)))) [4])) (tNext)) (t__law_names_r2 K s__law_draw))))))))
theorem dv__law_names {P : Program} {w : World} {K : PySem.W.Frag} {mg : Str → Option Value} {b : Heap} {a : Addr} {d : FuncData} {sp : Sp} (F : Fn K mg "_law_names" s__law_names_ a d ["held", "many"])
    {a__law_draw : Addr} {d__law_draw : FuncData} {s__law_draw : Sp} (F__law_draw : Fn K mg "_law_draw" s__law_draw_ a__law_draw d__law_draw ["held", "many"]) (k__law_draw : Keeps P w K mg b CX0 2 a__law_draw d__law_draw ["held", "many"] s__law_draw)
    (n_range : mg "range" = none)
    (n_int : mg "int" = none)
    (len : ∀ vs H Q E, sp vs H Q E → vs.length = 2)
    (rd : ∀ vs H Q E, sp vs H Q E → run (t__law_names K s__law_draw) (start N__law_names vs) H Q) : Keeps P w K mg b CX0 3 a d ["held", "many"] sp := by
  refine keeps0 F.fn sc__law_names len fun cdv A o s H vs Q E hr h => ⟨t__law_names K s__law_draw, ?_, rd vs H Q E h⟩
  unfold t__law_names t__law_names_r2 t__law_names_r1 t__law_names_b1
  exact (pss_cons (ps_set (i := 2) sc__law_names.nd rfl (.inr rfl) pe_str)
  (pss_cons (ps_set (i := 3) sc__law_names.nd rfl (.inl rfl) (pe_go k__law_draw (hr.mono (by decide)) rfl F__law_draw.g F__law_draw.fn.kp F__law_draw.b pass0 (pa_cons (pv 0) (pa_cons pe_int pa_nil))))
  (pss_cons (ps_set (i := 5) sc__law_names.nd rfl (.inl rfl) (pe_uJoin pe_str (pe_lc (own := [("k", 4)]) rfl sc__law_names.nd (pi_range1 (by rfl) n_range (pa_cons (pv 3) pa_nil)) (blkOk_by (own := [("k", 4)]) (N := N__law_names) (sc := defScope s__law_names_) (by decide +kernel)) (fun _ _ _ _ _ => (pg_name (i := 4) sc__law_names.nd rfl (.inl rfl))) (fun _ _ _ _ _ => pts_nil) (fun _ _ _ _ _ => (pe_ix ix_u (pv 2) (pe_go k__law_draw (hr.mono (by decide)) rfl F__law_draw.g F__law_draw.fn.kp F__law_draw.b pass0 (pa_cons (pv 0) (pa_cons (pe_ix ix_u (pe_lstU (pa_cons pe_int (pa_cons pe_int pa_nil))) (pe_callTy call_uInt (by rfl) n_int (by decide +kernel) (pa_cons (pe_cmpR (op_uEq hr.rm.units) (pv 4) pe_int (nomark _)) pa_nil)) (fun _ _ => rfl)) pa_nil))) (fun _ _ => rfl))))))
  (pss_cons (ps_set (i := 6) sc__law_names.nd rfl (.inl rfl) (pe_go k__law_draw (hr.mono (by decide)) rfl F__law_draw.g F__law_draw.fn.kp F__law_draw.b pass0 (pa_cons (pv 0) (pa_cons (pe_op op_uAdd (pv 3) pe_int) pa_nil))))
  (pss_cons (ps_asg (pe_tupU (pa_cons (pe_go k__law_draw (hr.mono (by decide)) rfl F__law_draw.g F__law_draw.fn.kp F__law_draw.b pass0 (pa_cons (pv 0) (pa_cons pe_int pa_nil))) (pa_cons (pe_ix ix_u (pe_lstU (pa_cons pe_int (pa_cons pe_int (pa_cons pe_int (pa_cons pe_int (pa_cons pe_int (pa_cons pe_int (pa_cons pe_int (pa_cons pe_int pa_nil))))))))) (pe_go k__law_draw (hr.mono (by decide)) rfl F__law_draw.g F__law_draw.fn.kp F__law_draw.b pass0 (pa_cons (pv 0) (pa_cons pe_int pa_nil))) (fun _ _ => rfl)) (pa_cons (pe_go k__law_draw (hr.mono (by decide)) rfl F__law_draw.g F__law_draw.fn.kp F__law_draw.b pass0 (pa_cons (pv 0) (pa_cons pe_int pa_nil))) pa_nil)))) (pg_tup rfl (pgs_cons (pg_name (i := 7) sc__law_names.nd rfl (.inr rfl)) (pgs_cons (pg_name (i := 8) sc__law_names.nd rfl (.inr rfl)) (pgs_cons (pg_name (i := 9) sc__law_names.nd rfl (.inl rfl)) pgs_nil)))))
  (pss_cons (ps_set (i := 10) sc__law_names.nd rfl (.inr rfl) (pe_uSplit pe_str pe_str))
  (pss_cons (ps_set (i := 10) sc__law_names.nd rfl (.inr rfl) (pe_op op_uAdd (pv 10) (pe_uSplit pe_str pe_str)))
  (pss_cons (ps_if (pt_cmpR (op_uEq hr.rm.units) (pe_go k__law_draw (hr.mono (by decide)) rfl F__law_draw.g F__law_draw.fn.kp F__law_draw.b pass0 (pa_cons (pv 0) (pa_cons pe_int pa_nil))) pe_int (nomark _)) (pss_one (ps_ret (pe_lc (own := [("k", 4)]) rfl sc__law_names.nd (pi_range1 (by rfl) n_range (pa_cons (pv 1) pa_nil)) (blkOk_by (own := [("k", 4)]) (N := N__law_names) (sc := defScope s__law_names_) (by decide +kernel)) (fun _ _ _ _ _ => (pg_name (i := 4) sc__law_names.nd rfl (.inl rfl))) (fun _ _ _ _ _ => pts_nil) (fun _ _ _ _ _ => (pe_ix ix_u (pv 10) (pe_op op_mod (pe_op op_uAdd (pv 7) (pe_op op_uMul (pv 8) (pv 4))) pe_int) (fun _ _ => rfl)))))) pss_nil)
  (pss_cons (ps_set (i := 11) sc__law_names.nd rfl (.inl rfl) (pe_lstU pa_nil))
  (pss_cons (ps_for PassesOwn.never rfl (pi_range1 (by rfl) n_range (pa_cons (pv 1) pa_nil)) (pg_name (i := 4) sc__law_names.nd rfl (.inl rfl)) (pss_cons (ps_set (i := 12) sc__law_names.nd rfl (.inl rfl) (pe_slice sl_u (pv 5) (po_some (pv 6)) (po_some (pe_op op_uAdd (pv 6) (pe_ix ix_u (pe_lstU (pa_cons pe_int (pa_cons (pe_op op_mod (pv 4) (pe_op op_uAdd (pe_op op_sub (pv 3) (pv 6)) pe_int)) pa_nil))) (pv 9) (fun _ _ => rfl))))))
  (pss_one (ps_expr (pe_bm PySem.F.plainAttrs_list PySem.F.slot_list_append PySem.F.type_list_append mt_uAppend (pv 11) (pa_cons (pe_op op_uAdd (pe_op op_uAdd (pe_slice sl_u (pv 5) po_none (po_some (pv 6))) (pe_ix ix_u (pv 2) (pe_op op_mod (pe_op op_uAdd (pv 7) (pe_op op_uMul (pv 8) (pv 4))) pe_int) (fun _ _ => rfl))) (pv 12)) pa_nil))))))
  (pss_one (ps_ret (pv 11)))))))))))))

abbrev s__law_minutes_ : Stmt := topS 8
abbrev N__law_minutes : List Str := ["held", "found", "lot", "turn"]
theorem sc__law_minutes : FnScope N__law_minutes ["held"] (defScope s__law_minutes_) := ⟨rfl, rfl, rfl, by decide +kernel, rfl, by decide +kernel, by decide +kernel⟩
def t__law_minutes_r1 (K : PySem.W.Frag) (s__law_draw : Sp) : TS :=
  tRet (tVar 1)
def t__law_minutes (K : PySem.W.Frag) (s__law_draw : Sp) : TS :=
  tSeq (tAsg (tLc (iRng1 (tCons (tC (.int 2)) (tNil))) (gName 3) (tYes) (tOp (uIx K) (tLstU (tCons (tOp (uAdd K) (tC (.int 1)) (tGo s__law_draw E0 (tCons (tVar 0) (tCons (tC (.int 7)) (tNil))))) (tCons (tOp (uAdd K) (tC (.int 1)) (tGo s__law_draw E0 (tCons (tVar 0) (tCons (tC (.int 60)) (tNil))))) (tNil)))) (tGo s__law_draw E0 (tCons (tVar 0) (tCons (tC (.int 2)) (tNil))))) [3]) (gName 1)) (tSeq (tAsg (tGo s__law_draw E0 (tCons (tVar 0) (tCons (tC (.int 6)) (tNil)))) (gName 2)) (tSeq (tIfS (tTest (tOp (rI0 fun i j => .bl (decide (i < j))) (tVar 2) (tC (.int 2)))) (tAsg (tC .non) (gSub (tVar 1) (tVar 2) uSetL)) (tNext)) (t__law_minutes_r1 K s__law_draw)))
theorem dv__law_minutes {P : Program} {w : World} {K : PySem.W.Frag} {mg : Str → Option Value} {b : Heap} {a : Addr} {d : FuncData} {sp : Sp} (F : Fn K mg "_law_minutes" s__law_minutes_ a d ["held"])
    (n_range : mg "range" = none)
    {a__law_draw : Addr} {d__law_draw : FuncData} {s__law_draw : Sp} (F__law_draw : Fn K mg "_law_draw" s__law_draw_ a__law_draw d__law_draw ["held", "many"]) (k__law_draw : Keeps P w K mg b CX0 2 a__law_draw d__law_draw ["held", "many"] s__law_draw)
    (len : ∀ vs H Q E, sp vs H Q E → vs.length = 1)
    (rd : ∀ vs H Q E, sp vs H Q E → run (t__law_minutes K s__law_draw) (start N__law_minutes vs) H Q) : Keeps P w K mg b CX0 3 a d ["held"] sp := by
  refine keeps0 F.fn sc__law_minutes len fun cdv A o s H vs Q E hr h => ⟨t__law_minutes K s__law_draw, ?_, rd vs H Q E h⟩
  unfold t__law_minutes t__law_minutes_r1
  exact (pss_cons (ps_setLc (i := 1) (own := [("turn", 3)]) rfl sc__law_minutes.nd rfl rfl (sw_true rfl rfl rfl (by decide +kernel)) (pi_range1 (by rfl) n_range (pa_cons pe_int pa_nil)) (blkOk_by (own := [("turn", 3)]) (N := N__law_minutes) (sc := defScope s__law_minutes_) (by decide +kernel)) (fun _ _ _ _ _ => (pg_name (i := 3) sc__law_minutes.nd rfl (.inl rfl))) (fun _ _ _ _ _ => pts_nil) (fun _ _ _ _ _ => (pe_ix ix_u (pe_lstU (pa_cons (pe_op op_uAdd pe_int (pe_go k__law_draw (hr.mono (by decide)) rfl F__law_draw.g F__law_draw.fn.kp F__law_draw.b pass0 (pa_cons (pv 0) (pa_cons pe_int pa_nil)))) (pa_cons (pe_op op_uAdd pe_int (pe_go k__law_draw (hr.mono (by decide)) rfl F__law_draw.g F__law_draw.fn.kp F__law_draw.b pass0 (pa_cons (pv 0) (pa_cons pe_int pa_nil)))) pa_nil))) (pe_go k__law_draw (hr.mono (by decide)) rfl F__law_draw.g F__law_draw.fn.kp F__law_draw.b pass0 (pa_cons (pv 0) (pa_cons pe_int pa_nil))) (fun _ _ => rfl))))
  (pss_cons (ps_set (i := 2) sc__law_minutes.nd rfl (.inl rfl) (pe_go k__law_draw (hr.mono (by decide)) rfl F__law_draw.g F__law_draw.fn.kp F__law_draw.b pass0 (pa_cons (pv 0) (pa_cons pe_int pa_nil))))
  (pss_cons (ps_if (pt_cmpR op_lt (pv 2) pe_int (nomark _)) (pss_one (ps_asg pe_non (pg_sub (pv 1) (pv 2) set_u))) pss_nil)
  (pss_one (ps_ret (pv 1))))))

abbrev s__law_town_ : Stmt := topS 9
abbrev N__law_town : List Str := ["held", "many", "places", "roads", "lot", "k", "one", "other", "there", "back", "stands", "reach"]
theorem sc__law_town : FnScope N__law_town ["held"] (defScope s__law_town_) := ⟨rfl, rfl, rfl, by decide +kernel, rfl, by decide +kernel, by decide +kernel⟩
def t__law_town_b1 (K : PySem.W.Frag) (s__law_draw : Sp) (s__law_names : Sp) (s__law_minutes : Sp) (s__law_some : Sp) : TS :=
  tSeq (tAsg (tOp (uIx K) (tLstU (tCons (tOp (rI (fun _ j => 0 < j) fun i j => .int (i % j)) (tVar 5) (tVar 1)) (tCons (tC (.int 0)) (tCons (tGo s__law_draw E0 (tCons (tVar 0) (tCons (tVar 1) (tNil)))) (tNil))))) (tVar 4)) (gName 6)) (tSeq (tAsg (tOp (rI (fun _ j => 0 < j) fun i j => .int (i % j)) (tOp (uAdd K) (tVar 6) (tOp (uIx K) (tLstU (tCons (tC (.int 1)) (tCons (tOp (uAdd K) (tC (.int 1)) (tOp (rI (fun _ j => 0 < j) fun i j => .int (i % j)) (tVar 5) (tCB uMax2 (tCons (tC (.int 1)) (tCons (tOp (rI0 fun i j => .int (i - j)) (tVar 1) (tC (.int 1))) (tNil)))))) (tCons (tOp (uAdd K) (tC (.int 1)) (tGo s__law_draw E0 (tCons (tVar 0) (tCons (tCB uMax2 (tCons (tC (.int 1)) (tCons (tOp (rI0 fun i j => .int (i - j)) (tVar 1) (tC (.int 1))) (tNil)))) (tNil))))) (tNil))))) (tVar 4))) (tVar 1)) (gName 7)) (tSeq (tAsg (tGo s__law_minutes E0 (tCons (tVar 0) (tNil))) (gUnl K 2 (gCons (gName 8) (gCons (gName 9) (gNil))))) (tDrop (tBM K "list" uAppend (tVar 3) (tCons (tTupU (tCons (tOp (uIx K) (tVar 2) (tVar 6)) (tCons (tOp (uIx K) (tVar 2) (tVar 7)) (tCons (tVar 8) (tCons (tVar 9) (tNil)))))) (tNil))))))
def t__law_town_r1 (K : PySem.W.Frag) (s__law_draw : Sp) (s__law_names : Sp) (s__law_minutes : Sp) (s__law_some : Sp) : TS :=
  tSeq (tAsg (tGo s__law_some E0 (tCons (tVar 0) (tCons (tVar 2) (tCons (tOp (uAdd K) (tC (.int 1)) (tGo s__law_draw E0 (tCons (tVar 0) (tCons (tCB uMin2 (tCons (tC (.int 5)) (tCons (tVar 1) (tNil)))) (tNil))))) (tNil))))) (gName 10)) (tSeq (tAsg (tLstU (tCons (tGo s__law_draw E0 (tCons (tVar 0) (tCons (tC (.int 9)) (tNil)))) (tCons (tGo s__law_draw E0 (tCons (tVar 0) (tCons (tC (.int 31)) (tNil)))) (tCons (tGo s__law_draw E0 (tCons (tVar 0) (tCons (tC (.int 121)) (tNil)))) (tCons (tOp (uIx K) (tLstU (tCons (tC (.int 0)) (tCons (tC (.int 120)) (tNil)))) (tGo s__law_draw E0 (tCons (tVar 0) (tCons (tC (.int 2)) (tNil))))) (tNil)))))) (gName 11)) (tRet (tTupU (tCons (tCB (uTuple K) (tCons (tVar 2) (tNil))) (tCons (tCB (uTuple K) (tCons (tVar 3) (tNil))) (tCons (tCB (uTuple K) (tCons (tVar 10) (tNil))) (tCons (tOp (uIx K) (tVar 11) (tGo s__law_draw E0 (tCons (tVar 0) (tCons (tC (.int 4)) (tNil))))) (tNil))))))))
def t__law_town (K : PySem.W.Frag) (s__law_draw : Sp) (s__law_names : Sp) (s__law_minutes : Sp) (s__law_some : Sp) : TS :=
  tSeq (tAsg (tOp (uAdd K) (tC (.int 1)) (tGo s__law_draw E0 (tCons (tVar 0) (tCons (tC (.int 10)) (tNil))))) (gName 1)) (tSeq (tAsg (tGo s__law_names E0 (tCons (tVar 0) (tCons (tVar 1) (tNil)))) (gName 2)) (tSeq (tAsg (tLstU (tNil)) (gName 3)) (tSeq (tAsg (tGo s__law_draw E0 (tCons (tVar 0) (tCons (tC (.int 3)) (tNil)))) (gName 4)) (tSeq (tFor (iRng1 (tCons (tOp (uIx K) (tLstU (tCons (tC (.int 0)) (tCons (tGo s__law_draw E0 (tCons (tVar 0) (tCons (tC (.int 19)) (tNil)))) (tNil)))) (tCB (uInt) (tCons (tOp (rI0 fun i j => .bl (decide (j < i))) (tVar 1) (tC (.int 1))) (tNil)))) (tNil))) (gName 5) (t__law_town_b1 K s__law_draw s__law_names s__law_minutes s__law_some)) (t__law_town_r1 K s__law_draw s__law_names s__law_minutes s__law_some)))))
theorem dv__law_town {P : Program} {w : World} {K : PySem.W.Frag} {mg : Str → Option Value} {b : Heap} {a : Addr} {d : FuncData} {sp : Sp} (F : Fn K mg "_law_town" s__law_town_ a d ["held"])
    {a__law_draw : Addr} {d__law_draw : FuncData} {s__law_draw : Sp} (F__law_draw : Fn K mg "_law_draw" s__law_draw_ a__law_draw d__law_draw ["held", "many"]) (k__law_draw : Keeps P w K mg b CX0 2 a__law_draw d__law_draw ["held", "many"] s__law_draw)
    {a__law_names : Addr} {d__law_names : FuncData} {s__law_names : Sp} (F__law_names : Fn K mg "_law_names" s__law_names_ a__law_names d__law_names ["held", "many"]) (k__law_names : Keeps P w K mg b CX0 3 a__law_names d__law_names ["held", "many"] s__law_names)
    (n_range : mg "range" = none)
    (n_int : mg "int" = none)
    (n_max : mg "max" = none)
    {a__law_minutes : Addr} {d__law_minutes : FuncData} {s__law_minutes : Sp} (F__law_minutes : Fn K mg "_law_minutes" s__law_minutes_ a__law_minutes d__law_minutes ["held"]) (k__law_minutes : Keeps P w K mg b CX0 3 a__law_minutes d__law_minutes ["held"] s__law_minutes)
    {a__law_some : Addr} {d__law_some : FuncData} {s__law_some : Sp} (F__law_some : Fn K mg "_law_some" s__law_some_ a__law_some d__law_some ["held", "things", "many"]) (k__law_some : Keeps P w K mg b CX0 3 a__law_some d__law_some ["held", "things", "many"] s__law_some)
    (n_min : mg "min" = none)
    (n_tuple : mg "tuple" = none)
    (len : ∀ vs H Q E, sp vs H Q E → vs.length = 1)
    (rd : ∀ vs H Q E, sp vs H Q E → run (t__law_town K s__law_draw s__law_names s__law_minutes s__law_some) (start N__law_town vs) H Q) : Keeps P w K mg b CX0 4 a d ["held"] sp := by
  refine keeps0 F.fn sc__law_town len fun cdv A o s H vs Q E hr h => ⟨t__law_town K s__law_draw s__law_names s__law_minutes s__law_some, ?_, rd vs H Q E h⟩
  unfold t__law_town t__law_town_r1 t__law_town_b1
  exact (pss_cons (ps_set (i := 1) sc__law_town.nd rfl (.inl rfl) (pe_op op_uAdd pe_int (pe_go k__law_draw (hr.mono (by decide)) rfl F__law_draw.g F__law_draw.fn.kp F__law_draw.b pass0 (pa_cons (pv 0) (pa_cons pe_int pa_nil)))))
  (pss_cons (ps_set (i := 2) sc__law_town.nd rfl (.inl rfl) (pe_go k__law_names (hr.mono (by decide)) rfl F__law_names.g F__law_names.fn.kp F__law_names.b pass0 (pa_cons (pv 0) (pa_cons (pv 1) pa_nil))))
  (pss_cons (ps_set (i := 3) sc__law_town.nd rfl (.inl rfl) (pe_lstU pa_nil))
  (pss_cons (ps_set (i := 4) sc__law_town.nd rfl (.inl rfl) (pe_go k__law_draw (hr.mono (by decide)) rfl F__law_draw.g F__law_draw.fn.kp F__law_draw.b pass0 (pa_cons (pv 0) (pa_cons pe_int pa_nil))))
  (pss_cons (ps_for PassesOwn.never rfl (pi_range1 (by rfl) n_range (pa_cons (pe_ix ix_u (pe_lstU (pa_cons pe_int (pa_cons (pe_go k__law_draw (hr.mono (by decide)) rfl F__law_draw.g F__law_draw.fn.kp F__law_draw.b pass0 (pa_cons (pv 0) (pa_cons pe_int pa_nil))) pa_nil))) (pe_callTy call_uInt (by rfl) n_int (by decide +kernel) (pa_cons (pe_cmpR op_gt (pv 1) pe_int (nomark _)) pa_nil)) (fun _ _ => rfl)) pa_nil)) (pg_name (i := 5) sc__law_town.nd rfl (.inl rfl)) (pss_cons (ps_set (i := 6) sc__law_town.nd rfl (.inl rfl) (pe_ix ix_u (pe_lstU (pa_cons (pe_op op_mod (pv 5) (pv 1)) (pa_cons pe_int (pa_cons (pe_go k__law_draw (hr.mono (by decide)) rfl F__law_draw.g F__law_draw.fn.kp F__law_draw.b pass0 (pa_cons (pv 0) (pa_cons (pv 1) pa_nil))) pa_nil)))) (pv 4) (fun _ _ => rfl)))
  (pss_cons (ps_set (i := 7) sc__law_town.nd rfl (.inl rfl) (pe_op op_mod (pe_op op_uAdd (pv 6) (pe_ix ix_u (pe_lstU (pa_cons pe_int (pa_cons (pe_op op_uAdd pe_int (pe_op op_mod (pv 5) (pe_callB (call_uMax2 rfl) (by rfl) n_max (by decide +kernel) (pa_cons pe_int (pa_cons (pe_op op_sub (pv 1) pe_int) pa_nil))))) (pa_cons (pe_op op_uAdd pe_int (pe_go k__law_draw (hr.mono (by decide)) rfl F__law_draw.g F__law_draw.fn.kp F__law_draw.b pass0 (pa_cons (pv 0) (pa_cons (pe_callB (call_uMax2 rfl) (by rfl) n_max (by decide +kernel) (pa_cons pe_int (pa_cons (pe_op op_sub (pv 1) pe_int) pa_nil))) pa_nil)))) pa_nil)))) (pv 4) (fun _ _ => rfl))) (pv 1)))
  (pss_cons (ps_asg (pe_go k__law_minutes (hr.mono (by decide)) rfl F__law_minutes.g F__law_minutes.fn.kp F__law_minutes.b pass0 (pa_cons (pv 0) pa_nil)) (pg_unl rfl (pgs_cons (pg_name (i := 8) sc__law_town.nd rfl (.inl rfl)) (pgs_cons (pg_name (i := 9) sc__law_town.nd rfl (.inl rfl)) pgs_nil))))
  (pss_one (ps_expr (pe_bm PySem.F.plainAttrs_list PySem.F.slot_list_append PySem.F.type_list_append mt_uAppend (pv 3) (pa_cons (pe_tupU (pa_cons (pe_ix ix_u (pv 2) (pv 6) (fun _ _ => rfl)) (pa_cons (pe_ix ix_u (pv 2) (pv 7) (fun _ _ => rfl)) (pa_cons (pv 8) (pa_cons (pv 9) pa_nil))))) pa_nil))))))))
  (pss_cons (ps_set (i := 10) sc__law_town.nd rfl (.inl rfl) (pe_go k__law_some (hr.mono (by decide)) rfl F__law_some.g F__law_some.fn.kp F__law_some.b pass0 (pa_cons (pv 0) (pa_cons (pv 2) (pa_cons (pe_op op_uAdd pe_int (pe_go k__law_draw (hr.mono (by decide)) rfl F__law_draw.g F__law_draw.fn.kp F__law_draw.b pass0 (pa_cons (pv 0) (pa_cons (pe_callB (call_uMin2 rfl) (by rfl) n_min (by decide +kernel) (pa_cons pe_int (pa_cons (pv 1) pa_nil))) pa_nil)))) pa_nil)))))
  (pss_cons (ps_set (i := 11) sc__law_town.nd rfl (.inl rfl) (pe_lstU (pa_cons (pe_go k__law_draw (hr.mono (by decide)) rfl F__law_draw.g F__law_draw.fn.kp F__law_draw.b pass0 (pa_cons (pv 0) (pa_cons pe_int pa_nil))) (pa_cons (pe_go k__law_draw (hr.mono (by decide)) rfl F__law_draw.g F__law_draw.fn.kp F__law_draw.b pass0 (pa_cons (pv 0) (pa_cons pe_int pa_nil))) (pa_cons (pe_go k__law_draw (hr.mono (by decide)) rfl F__law_draw.g F__law_draw.fn.kp F__law_draw.b pass0 (pa_cons (pv 0) (pa_cons pe_int pa_nil))) (pa_cons (pe_ix ix_u (pe_lstU (pa_cons pe_int (pa_cons pe_int pa_nil))) (pe_go k__law_draw (hr.mono (by decide)) rfl F__law_draw.g F__law_draw.fn.kp F__law_draw.b pass0 (pa_cons (pv 0) (pa_cons pe_int pa_nil))) (fun _ _ => rfl)) pa_nil))))))
  (pss_one (ps_ret (pe_tupU (pa_cons (pe_callTy call_uTuple (by rfl) n_tuple (by decide +kernel) (pa_cons (pv 2) pa_nil)) (pa_cons (pe_callTy call_uTuple (by rfl) n_tuple (by decide +kernel) (pa_cons (pv 3) pa_nil)) (pa_cons (pe_callTy call_uTuple (by rfl) n_tuple (by decide +kernel) (pa_cons (pv 10) pa_nil)) (pa_cons (pe_ix ix_u (pv 11) (pe_go k__law_draw (hr.mono (by decide)) rfl F__law_draw.g F__law_draw.fn.kp F__law_draw.b pass0 (pa_cons (pv 0) (pa_cons pe_int pa_nil))) (fun _ _ => rfl)) pa_nil))))))))))))))

abbrev s__law_rows_ : Stmt := topS 10
abbrev N__law_rows : List Str := ["held", "town", "found", "many", "wagon", "pool", "lot", "can", "stand"]
theorem sc__law_rows : FnScope N__law_rows ["held", "town"] (defScope s__law_rows_) := ⟨rfl, rfl, rfl, by decide +kernel, rfl, by decide +kernel, by decide +kernel⟩
def t__law_rows_b1 (K : PySem.W.Frag) (s__law_draw : Sp) (s__law_names : Sp) : TS :=
  tSeq (tAsg (tOp (uIx K) (tLstU (tCons (tOp (uIx K) (tVar 1) (tC (.int 0))) (tCons (tOp (uIx K) (tVar 1) (tC (.int 2))) (tNil)))) (tGo s__law_draw E0 (tCons (tVar 0) (tCons (tC (.int 2)) (tNil))))) (gName 5)) (tSeq (tAsg (tGo s__law_draw E0 (tCons (tVar 0) (tCons (tC (.int 4)) (tNil)))) (gName 6)) (tSeq (tAsg (tLc (iU K (tOp (uIx K) (tVar 1) (tC (.int 2)))) (gName 8) (tOr (tTest (tOp (rI0 fun i j => .bl (decide (j < i))) (tVar 6) (tC (.int 1)))) (tAnd (tTest (tOp (uEq K false) (tVar 6) (tC (.int 1)))) (tTest (tOp (uEq K false) (tGo s__law_draw E0 (tCons (tVar 0) (tCons (tC (.int 2)) (tNil)))) (tC (.int 0)))))) (tVar 8) [8]) (gName 7)) (tDrop (tBM K "list" uAppend (tVar 2) (tCons (tTupU (tCons (tVar 4) (tCons (tOp (uIx K) (tVar 5) (tGo s__law_draw E0 (tCons (tVar 0) (tCons (tCB (uLen K) (tCons (tVar 5) (tNil))) (tNil))))) (tCons (tCB (uTuple K) (tCons (tSl (uSl K) (tVar 7) (tNoPart) (tPart (tOp (uIx K) (tLstU (tCons (tOp (rI0 fun i j => .int (i - j)) (tC (.int 9)) (tVar 3)) (tCons (tC (.int 5)) (tNil)))) (tCB (uInt) (tCons (tOp (rI0 fun i j => .bl (decide (i < j))) (tOp (uIx K) (tVar 1) (tC (.int 3))) (tC (.int 2))) (tNil)))))) (tNil))) (tNil))))) (tNil))))))
def t__law_rows_r1 (K : PySem.W.Frag) (s__law_draw : Sp) (s__law_names : Sp) : TS :=
  tRet (tVar 2)
def t__law_rows (K : PySem.W.Frag) (s__law_draw : Sp) (s__law_names : Sp) : TS :=
  tSeq (tAsg (tLstU (tNil)) (gName 2)) (tSeq (tAsg (tGo s__law_draw E0 (tCons (tVar 0) (tCons (tC (.int 6)) (tNil)))) (gName 3)) (tSeq (tFor (iU K (tCB (uSorted K) (tCons (tGo s__law_names E0 (tCons (tVar 0) (tCons (tVar 3) (tNil)))) (tNil)))) (gName 4) (t__law_rows_b1 K s__law_draw s__law_names)) (t__law_rows_r1 K s__law_draw s__law_names)))
theorem dv__law_rows {P : Program} {w : World} {K : PySem.W.Frag} {mg : Str → Option Value} {b : Heap} {a : Addr} {d : FuncData} {sp : Sp} (F : Fn K mg "_law_rows" s__law_rows_ a d ["held", "town"])
    {a__law_draw : Addr} {d__law_draw : FuncData} {s__law_draw : Sp} (F__law_draw : Fn K mg "_law_draw" s__law_draw_ a__law_draw d__law_draw ["held", "many"]) (k__law_draw : Keeps P w K mg b CX0 2 a__law_draw d__law_draw ["held", "many"] s__law_draw)
    (n_sorted : mg "sorted" = none)
    {a__law_names : Addr} {d__law_names : FuncData} {s__law_names : Sp} (F__law_names : Fn K mg "_law_names" s__law_names_ a__law_names d__law_names ["held", "many"]) (k__law_names : Keeps P w K mg b CX0 3 a__law_names d__law_names ["held", "many"] s__law_names)
    (n_tuple : mg "tuple" = none)
    (n_int : mg "int" = none)
    (n_len : mg "len" = none)
    (len : ∀ vs H Q E, sp vs H Q E → vs.length = 2)
    (rd : ∀ vs H Q E, sp vs H Q E → run (t__law_rows K s__law_draw s__law_names) (start N__law_rows vs) H Q) : Keeps P w K mg b CX0 4 a d ["held", "town"] sp := by
  refine keeps0 F.fn sc__law_rows len fun cdv A o s H vs Q E hr h => ⟨t__law_rows K s__law_draw s__law_names, ?_, rd vs H Q E h⟩
  unfold t__law_rows t__law_rows_r1 t__law_rows_b1
  exact (pss_cons (ps_set (i := 2) sc__law_rows.nd rfl (.inl rfl) (pe_lstU pa_nil))
  (pss_cons (ps_set (i := 3) sc__law_rows.nd rfl (.inl rfl) (pe_go k__law_draw (hr.mono (by decide)) rfl F__law_draw.g F__law_draw.fn.kp F__law_draw.b pass0 (pa_cons (pv 0) (pa_cons pe_int pa_nil))))
  (pss_cons (ps_for PassesOwn.never rfl (pi_u (pe_callB (call_uSorted hr.rm.units) (by rfl) n_sorted (by decide +kernel) (pa_cons (pe_go k__law_names (hr.mono (by decide)) rfl F__law_names.g F__law_names.fn.kp F__law_names.b pass0 (pa_cons (pv 0) (pa_cons (pv 3) pa_nil))) pa_nil))) (pg_name (i := 4) sc__law_rows.nd rfl (.inl rfl)) (pss_cons (ps_set (i := 5) sc__law_rows.nd rfl (.inl rfl) (pe_ix ix_u (pe_lstU (pa_cons (pe_ix ix_u (pv 1) pe_int (fun _ _ => rfl)) (pa_cons (pe_ix ix_u (pv 1) pe_int (fun _ _ => rfl)) pa_nil))) (pe_go k__law_draw (hr.mono (by decide)) rfl F__law_draw.g F__law_draw.fn.kp F__law_draw.b pass0 (pa_cons (pv 0) (pa_cons pe_int pa_nil))) (fun _ _ => rfl)))
  (pss_cons (ps_set (i := 6) sc__law_rows.nd rfl (.inr rfl) (pe_go k__law_draw (hr.mono (by decide)) rfl F__law_draw.g F__law_draw.fn.kp F__law_draw.b pass0 (pa_cons (pv 0) (pa_cons pe_int pa_nil))))
  (pss_cons (ps_setLc (i := 7) (own := [("stand", 8)]) rfl sc__law_rows.nd rfl rfl (sw_true rfl rfl rfl (by decide +kernel)) (pi_u (pe_ix ix_u (pv 1) pe_int (fun _ _ => rfl))) (blkOk_by (own := [("stand", 8)]) (N := N__law_rows) (sc := defScope s__law_rows_) (by decide +kernel)) (fun _ _ _ _ _ => (pg_name (i := 8) sc__law_rows.nd rfl (.inl rfl))) (fun _ _ _ _ _ => (pts_one (PW.pt (pw_or (pt_cmpR op_gt (pv 6) pe_int (nomark _)) (pw_or1 (PW.pt (pw_and (pt_cmpR (op_uEq hr.rm.units) (pv 6) pe_int (nomark _)) (pw_and1 (pt_cmpR (op_uEq hr.rm.units) (pe_go k__law_draw (hr.mono (by decide)) rfl F__law_draw.g F__law_draw.fn.kp F__law_draw.b pass0 (pa_cons (pv 0) (pa_cons pe_int pa_nil))) pe_int (nomark _)))))))))) (fun _ _ _ _ _ => (pv 8)))
  (pss_one (ps_expr (pe_bm PySem.F.plainAttrs_list PySem.F.slot_list_append PySem.F.type_list_append mt_uAppend (pv 2) (pa_cons (pe_tupU (pa_cons (pv 4) (pa_cons (pe_ix ix_u (pv 5) (pe_go k__law_draw (hr.mono (by decide)) rfl F__law_draw.g F__law_draw.fn.kp F__law_draw.b pass0 (pa_cons (pv 0) (pa_cons (pe_callB call_uLen (by rfl) n_len (by decide +kernel) (pa_cons (pv 5) pa_nil)) pa_nil))) (fun _ _ => rfl)) (pa_cons (pe_callTy call_uTuple (by rfl) n_tuple (by decide +kernel) (pa_cons (pe_slice sl_u (pv 7) po_none (po_some (pe_ix ix_u (pe_lstU (pa_cons (pe_op op_sub pe_int (pv 3)) (pa_cons pe_int pa_nil))) (pe_callTy call_uInt (by rfl) n_int (by decide +kernel) (pa_cons (pe_cmpR op_lt (pe_ix ix_u (pv 1) pe_int (fun _ _ => rfl)) pe_int (nomark _)) pa_nil)) (fun _ _ => rfl)))) pa_nil)) pa_nil)))) pa_nil))))))))
  (pss_one (ps_ret (pv 2))))))

abbrev s__law_plan_by_ : Stmt := topS 11
abbrev N__law_plan_by : List Str := ["held", "rows", "lot", "found", "wagon", "post", "can", "some", "stand"]
theorem sc__law_plan_by : FnScope N__law_plan_by ["held", "rows"] (defScope s__law_plan_by_) := ⟨rfl, rfl, rfl, by decide +kernel, rfl, by decide +kernel, by decide +kernel⟩
def t__law_plan_by_b1 (K : PySem.W.Frag) (s__law_draw : Sp) : TS :=
  tSeq (tAsg (tLc (iU K (tVar 6)) (gName 8) (tTest (tOp (uEq K true) (tVar 8) (tVar 5))) (tVar 8) [8]) (gName 7)) (tIfS (tAnd (tTest (tOp (uEq K true) (tVar 7) (tLstU (tNil)))) (tOr (tTest (tOp (uEq K false) (tVar 2) (tC (.int 2)))) (tAnd (tTest (tOp (uEq K false) (tVar 2) (tC (.int 1)))) (tTest (tOp (uEq K false) (tGo s__law_draw E0 (tCons (tVar 0) (tCons (tC (.int 2)) (tNil)))) (tC (.int 0))))))) (tDrop (tBM K "list" uAppend (tVar 3) (tCons (tTupU (tCons (tVar 4) (tCons (tOp (uIx K) (tVar 7) (tGo s__law_draw E0 (tCons (tVar 0) (tCons (tCB (uLen K) (tCons (tVar 7) (tNil))) (tNil))))) (tNil)))) (tNil)))) (tNext))
def t__law_plan_by_r1 (K : PySem.W.Frag) (s__law_draw : Sp) : TS :=
  tRet (tVar 3)
def t__law_plan_by (K : PySem.W.Frag) (s__law_draw : Sp) : TS :=
  tSeq (tAsg (tGo s__law_draw E0 (tCons (tVar 0) (tCons (tC (.int 3)) (tNil)))) (gName 2)) (tSeq (tAsg (tLstU (tNil)) (gName 3)) (tSeq (tFor (iU K (tVar 1)) (gTup K 3 (gCons (gName 4) (gCons (gName 5) (gCons (gName 6) (gNil))))) (t__law_plan_by_b1 K s__law_draw)) (t__law_plan_by_r1 K s__law_draw)))
theorem dv__law_plan_by {P : Program} {w : World} {K : PySem.W.Frag} {mg : Str → Option Value} {b : Heap} {a : Addr} {d : FuncData} {sp : Sp} (F : Fn K mg "_law_plan_by" s__law_plan_by_ a d ["held", "rows"])
    {a__law_draw : Addr} {d__law_draw : FuncData} {s__law_draw : Sp} (F__law_draw : Fn K mg "_law_draw" s__law_draw_ a__law_draw d__law_draw ["held", "many"]) (k__law_draw : Keeps P w K mg b CX0 2 a__law_draw d__law_draw ["held", "many"] s__law_draw)
    (n_len : mg "len" = none)
    (len : ∀ vs H Q E, sp vs H Q E → vs.length = 2)
    (rd : ∀ vs H Q E, sp vs H Q E → run (t__law_plan_by K s__law_draw) (start N__law_plan_by vs) H Q) : Keeps P w K mg b CX0 3 a d ["held", "rows"] sp := by
  refine keeps0 F.fn sc__law_plan_by len fun cdv A o s H vs Q E hr h => ⟨t__law_plan_by K s__law_draw, ?_, rd vs H Q E h⟩
  unfold t__law_plan_by t__law_plan_by_r1 t__law_plan_by_b1
  exact (pss_cons (ps_set (i := 2) sc__law_plan_by.nd rfl (.inl rfl) (pe_go k__law_draw (hr.mono (by decide)) rfl F__law_draw.g F__law_draw.fn.kp F__law_draw.b pass0 (pa_cons (pv 0) (pa_cons pe_int pa_nil))))
  (pss_cons (ps_set (i := 3) sc__law_plan_by.nd rfl (.inl rfl) (pe_lstU pa_nil))
  (pss_cons (ps_for PassesOwn.never rfl (pi_u (pv 1)) (pg_tup rfl (pgs_cons (pg_name (i := 4) sc__law_plan_by.nd rfl (.inl rfl)) (pgs_cons (pg_name (i := 5) sc__law_plan_by.nd rfl (.inr rfl)) (pgs_cons (pg_name (i := 6) sc__law_plan_by.nd rfl (.inl rfl)) pgs_nil)))) (pss_cons (ps_setLc (i := 7) (own := [("stand", 8)]) rfl sc__law_plan_by.nd rfl rfl (sw_true rfl rfl rfl (by decide +kernel)) (pi_u (pv 6)) (blkOk_by (own := [("stand", 8)]) (N := N__law_plan_by) (sc := defScope s__law_plan_by_) (by decide +kernel)) (fun _ _ _ _ _ => (pg_name (i := 8) sc__law_plan_by.nd rfl (.inl rfl))) (fun _ _ _ _ _ => (pts_one (pt_cmpR (op_uNe hr.rm.units) (pv 8) (pv 5) (nomark _)))) (fun _ _ _ _ _ => (pv 8)))
  (pss_one (ps_if (PW.pt (pw_and (pt_cmpR (op_uNe hr.rm.units) (pv 7) (pe_lstU pa_nil) (nomark _)) (pw_and1 (PW.pt (pw_or (pt_cmpR (op_uEq hr.rm.units) (pv 2) pe_int (nomark _)) (pw_or1 (PW.pt (pw_and (pt_cmpR (op_uEq hr.rm.units) (pv 2) pe_int (nomark _)) (pw_and1 (pt_cmpR (op_uEq hr.rm.units) (pe_go k__law_draw (hr.mono (by decide)) rfl F__law_draw.g F__law_draw.fn.kp F__law_draw.b pass0 (pa_cons (pv 0) (pa_cons pe_int pa_nil))) pe_int (nomark _))))))))))) (pss_one (ps_expr (pe_bm PySem.F.plainAttrs_list PySem.F.slot_list_append PySem.F.type_list_append mt_uAppend (pv 3) (pa_cons (pe_tupU (pa_cons (pv 4) (pa_cons (pe_ix ix_u (pv 7) (pe_go k__law_draw (hr.mono (by decide)) rfl F__law_draw.g F__law_draw.fn.kp F__law_draw.b pass0 (pa_cons (pv 0) (pa_cons (pe_callB call_uLen (by rfl) n_len (by decide +kernel) (pa_cons (pv 7) pa_nil)) pa_nil))) (fun _ _ => rfl)) pa_nil))) pa_nil)))) pss_nil))))
  (pss_one (ps_ret (pv 3))))))

abbrev s__law_is_plan_ : Stmt := topS 12
abbrev N__law_is_plan : List Str := ["rows", "thing", "ahead", "one", "some", "row", "part"]
theorem sc__law_is_plan : FnScope N__law_is_plan ["rows", "thing"] (defScope s__law_is_plan_) := ⟨rfl, rfl, rfl, by decide +kernel, rfl, by decide +kernel, by decide +kernel⟩
def t__law_is_plan_r1 (K : PySem.W.Frag) : TS :=
  tAsg (tOp (uIx K) (tVar 3) (tC (.int 0))) (gName 2)
def t__law_is_plan_r2 (K : PySem.W.Frag) : TS :=
  tSeq (tAsg (tLc (iU K (tVar 0)) (gName 5) (tTest (tOp (uEq K false) (tOp (uIx K) (tVar 5) (tC (.int 0))) (tOp (uIx K) (tVar 3) (tC (.int 0))))) (tVar 5) [5]) (gName 4)) (tSeq (tIfS (tOr (tTest (tOp (uEq K false) (tVar 4) (tLstU (tNil)))) (tOr (tTest (tOp (uIn K true) (tOp (uIx K) (tVar 3) (tC (.int 1))) (tOp (uIx K) (tOp (uIx K) (tVar 4) (tC (.int 0))) (tC (.int 2))))) (tOr (tTest (tOp (uEq K false) (tOp (uIx K) (tVar 3) (tC (.int 1))) (tOp (uIx K) (tOp (uIx K) (tVar 4) (tC (.int 0))) (tC (.int 1))))) (tNot (tTest (tOp uLtS (tVar 2) (tOp (uIx K) (tVar 3) (tC (.int 0))))))))) (tRet (tC (.bl false))) (tNext)) (t__law_is_plan_r1 K))
def t__law_is_plan_b1 (K : PySem.W.Frag) : TS :=
  tSeq (tIfS (tOr (tNot (tTru K (tCB (rIsi K) (tCons (tVar 3) (tCons (tC (.ty "tuple")) (tNil)))))) (tOr (tTest (tOp (uEq K true) (tCB (uLen K) (tCons (tVar 3) (tNil))) (tC (.int 2)))) (tNot (tTru K (tCB (rAll K) (tCons (tLc (iU K (tVar 3)) (gName 6) (tYes) (tCB (rIsi K) (tCons (tVar 6) (tCons (tC (.ty "str")) (tNil)))) [6]) (tNil))))))) (tRet (tC (.bl false))) (tNext)) (t__law_is_plan_r2 K)
def t__law_is_plan_r3 (K : PySem.W.Frag) : TS :=
  tRet (tC (.bl true))
def t__law_is_plan_r4 (K : PySem.W.Frag) : TS :=
  tSeq (tAsg (tC (.str "")) (gName 2)) (tSeq (tFor (iU K (tVar 1)) (gName 3) (t__law_is_plan_b1 K)) (t__law_is_plan_r3 K))
def t__law_is_plan (K : PySem.W.Frag) : TS :=
  tSeq (tIfS (tNot (tTru K (tCB (rIsi K) (tCons (tVar 1) (tCons (tC (.ty "list")) (tNil)))))) (tRet (tC (.bl false))) (tNext)) (t__law_is_plan_r4 K)
theorem dv__law_is_plan {P : Program} {w : World} {K : PySem.W.Frag} {mg : Str → Option Value} {b : Heap} {a : Addr} {d : FuncData} {sp : Sp} (F : Fn K mg "_law_is_plan" s__law_is_plan_ a d ["rows", "thing"])
    (n_isinstance : mg "isinstance" = none)
    (n_list : mg "list" = none)
    (n_tuple : mg "tuple" = none)
    (n_len : mg "len" = none)
    (n_all : mg "all" = none)
    (n_str : mg "str" = none)
    (len : ∀ vs H Q E, sp vs H Q E → vs.length = 2)
    (rd : ∀ vs H Q E, sp vs H Q E → run (t__law_is_plan K) (start N__law_is_plan vs) H Q) : Keeps P w K mg b CX0 2 a d ["rows", "thing"] sp := by
  refine keeps0 F.fn sc__law_is_plan len fun cdv A o s H vs Q E hr h => ⟨t__law_is_plan K, ?_, rd vs H Q E h⟩
  unfold t__law_is_plan t__law_is_plan_r4 t__law_is_plan_r3 t__law_is_plan_b1 t__law_is_plan_r2 t__law_is_plan_r1
  exact (pss_cons (ps_if (pt_not (pt_tru (pe_callB call_isi (by rfl) n_isinstance (by decide +kernel) (pa_cons (pv 1) (pa_cons (pe_bltn (v := .ty "list") (by rfl) n_list (by decide +kernel) rfl) pa_nil))))) (pss_one (ps_ret pe_bl)) pss_nil)
  (pss_cons (ps_set (i := 2) sc__law_is_plan.nd rfl (.inl rfl) pe_str)
  (pss_cons (ps_for PassesOwn.never rfl (pi_u (pv 1)) (pg_name (i := 3) sc__law_is_plan.nd rfl (.inr rfl)) (pss_cons (ps_if (PW.pt (pw_or (pt_not (pt_tru (pe_callB call_isi (by rfl) n_isinstance (by decide +kernel) (pa_cons (pv 3) (pa_cons (pe_bltn (v := .ty "tuple") (by rfl) n_tuple (by decide +kernel) rfl) pa_nil))))) (pw_or (pt_cmpR (op_uNe hr.rm.units) (pe_callB call_uLen (by rfl) n_len (by decide +kernel) (pa_cons (pv 3) pa_nil)) pe_int (nomark _)) (pw_or1 (pt_not (pt_tru (pe_callB (cr_all rfl) (by rfl) n_all (by decide +kernel) (pa_cons (pe_lc (own := [("part", 6)]) rfl sc__law_is_plan.nd (pi_u (pv 3)) (blkOk_by (own := [("part", 6)]) (N := N__law_is_plan) (sc := defScope s__law_is_plan_) (by decide +kernel)) (fun _ _ _ _ _ => (pg_name (i := 6) sc__law_is_plan.nd rfl (.inl rfl))) (fun _ _ _ _ _ => pts_nil) (fun _ _ _ _ _ => (pe_callB call_isi (by rfl) n_isinstance (by decide +kernel) (pa_cons (pv 6) (pa_cons (pe_bltn (v := .ty "str") (by rfl) n_str (by decide +kernel) rfl) pa_nil))))) pa_nil)))))))) (pss_one (ps_ret pe_bl)) pss_nil)
  (pss_cons (ps_setLc (i := 4) (own := [("row", 5)]) rfl sc__law_is_plan.nd rfl rfl (sw_true rfl rfl rfl (by decide +kernel)) (pi_u (pv 0)) (blkOk_by (own := [("row", 5)]) (N := N__law_is_plan) (sc := defScope s__law_is_plan_) (by decide +kernel)) (fun _ _ _ _ _ => (pg_name (i := 5) sc__law_is_plan.nd rfl (.inl rfl))) (fun _ _ _ _ _ => (pts_one (pt_cmpR (op_uEq hr.rm.units) (pe_ix ix_u (pv 5) pe_int (fun _ _ => rfl)) (pe_ix ix_u (pv 3) pe_int (fun _ _ => rfl)) (nomark _)))) (fun _ _ _ _ _ => (pv 5)))
  (pss_cons (ps_if (PW.pt (pw_or (pt_cmpR (op_uEq hr.rm.units) (pv 4) (pe_lstU pa_nil) (nomark _)) (pw_or (pt_cmpR op_uNotIn (pe_ix ix_u (pv 3) pe_int (fun _ _ => rfl)) (pe_ix ix_u (pe_ix ix_u (pv 4) pe_int (fun _ _ => rfl)) pe_int (fun _ _ => rfl)) rfl) (pw_or (pt_cmpR (op_uEq hr.rm.units) (pe_ix ix_u (pv 3) pe_int (fun _ _ => rfl)) (pe_ix ix_u (pe_ix ix_u (pv 4) pe_int (fun _ _ => rfl)) pe_int (fun _ _ => rfl)) (nomark _)) (pw_or1 (pt_not (pt_cmpR op_uLtS (pv 2) (pe_ix ix_u (pv 3) pe_int (fun _ _ => rfl)) (nomark _)))))))) (pss_one (ps_ret pe_bl)) pss_nil)
  (pss_one (ps_set (i := 2) sc__law_is_plan.nd rfl (.inl rfl) (pe_ix ix_u (pv 3) pe_int (fun _ _ => rfl))))))))
  (pss_one (ps_ret pe_bl)))))

abbrev s__law_bent_ : Stmt := topS 13
abbrev N__law_bent : List Str := ["held", "town", "rows", "plan", "at", "row", "move", "odd", "some"]
theorem sc__law_bent : FnScope N__law_bent ["held", "town", "rows", "plan"] (defScope s__law_bent_) := ⟨rfl, rfl, rfl, by decide +kernel, rfl, by decide +kernel, by decide +kernel⟩
def t__law_bent_r1 (K : PySem.W.Frag) (s__law_draw : Sp) : TS :=
  tRet (tOp (uIx K) (tVar 8) (tGo s__law_draw E0 (tCons (tVar 0) (tCons (tC (.int 12)) (tNil)))))
def t__law_bent_r2 (K : PySem.W.Frag) (s__law_draw : Sp) : TS :=
  tSeq (tAsg (tOp (uAdd K) (tVar 8) (tLstU (tCons (tOp (uAdd K) (tOp (uAdd K) (tSl (uSl K) (tVar 3) (tNoPart) (tPart (tVar 4))) (tLstU (tCons (tVar 6) (tNil)))) (tSl (uSl K) (tVar 3) (tPart (tOp (uAdd K) (tVar 4) (tC (.int 1)))) (tNoPart))) (tCons (tCB (uSorted K) (tCons (tOp (uAdd K) (tVar 3) (tLstU (tCons (tVar 6) (tNil)))) (tNil))) (tCons (tOp (uAdd K) (tLstU (tCons (tTupU (tCons (tOp (uAdd K) (tOp (uIx K) (tVar 5) (tC (.int 0))) (tC (.str "a"))) (tCons (tOp (uIx K) (tVar 6) (tC (.int 1))) (tNil)))) (tNil))) (tVar 3)) (tNil)))))) (gName 8)) (t__law_bent_r1 K s__law_draw)
def t__law_bent_r3 (K : PySem.W.Frag) (s__law_draw : Sp) : TS :=
  tSeq (tAsg (tOp (uAdd K) (tVar 8) (tLstU (tCons (tOp (uAdd K) (tOp (uAdd K) (tSl (uSl K) (tVar 3) (tNoPart) (tPart (tVar 4))) (tLstU (tCons (tOp (uIx K) (tVar 7) (tGo s__law_draw E0 (tCons (tVar 0) (tCons (tC (.int 9)) (tNil))))) (tNil)))) (tSl (uSl K) (tVar 3) (tPart (tVar 4)) (tNoPart))) (tCons (tOp (uIx K) (tVar 7) (tGo s__law_draw E0 (tCons (tVar 0) (tCons (tC (.int 9)) (tNil))))) (tNil))))) (gName 8)) (t__law_bent_r2 K s__law_draw)
def t__law_bent_r4 (K : PySem.W.Frag) (s__law_draw : Sp) : TS :=
  tSeq (tAsg (tOp (uAdd K) (tVar 8) (tLstU (tCons (tRevL K (tVar 3)) (tCons (tOp (uAdd K) (tOp (uAdd K) (tSl (uSl K) (tVar 3) (tNoPart) (tPart (tVar 4))) (tSl (uSl K) (tVar 3) (tNoPart) (tPart (tC (.int 1))))) (tSl (uSl K) (tVar 3) (tPart (tVar 4)) (tNoPart))) (tCons (tCB (uTuple K) (tCons (tVar 3) (tNil))) (tCons (tOp (uAdd K) (tSl (uSl K) (tVar 3) (tPart (tVar 4)) (tNoPart)) (tSl (uSl K) (tVar 3) (tNoPart) (tPart (tVar 4)))) (tNil))))))) (gName 8)) (t__law_bent_r3 K s__law_draw)
def t__law_bent_r5 (K : PySem.W.Frag) (s__law_draw : Sp) : TS :=
  tSeq (tAsg (tLstU (tCons (tOp (uAdd K) (tSl (uSl K) (tVar 3) (tNoPart) (tPart (tVar 4))) (tSl (uSl K) (tVar 3) (tPart (tOp (uAdd K) (tVar 4) (tC (.int 1)))) (tNoPart))) (tCons (tOp (uAdd K) (tOp (uAdd K) (tSl (uSl K) (tVar 3) (tNoPart) (tPart (tVar 4))) (tLstU (tCons (tVar 6) (tNil)))) (tSl (uSl K) (tVar 3) (tPart (tVar 4)) (tNoPart))) (tCons (tCB (uSorted K) (tCons (tOp (uAdd K) (tOp (uAdd K) (tSl (uSl K) (tVar 3) (tNoPart) (tPart (tVar 4))) (tLstU (tCons (tVar 6) (tNil)))) (tSl (uSl K) (tVar 3) (tPart (tOp (uAdd K) (tVar 4) (tC (.int 1)))) (tNoPart))) (tNil))) (tNil))))) (gName 8)) (t__law_bent_r4 K s__law_draw)
def t__law_bent_r6 (K : PySem.W.Frag) (s__law_draw : Sp) : TS :=
  tSeq (tAsg (tLstU (tCons (tC .non) (tCons (tC (.bl true)) (tCons (tC (.str "")) (tCons (tTupU (tCons (tOp (uIx K) (tVar 5) (tC (.int 0))) (tNil))) (tCons (tLstU (tCons (tOp (uIx K) (tVar 5) (tC (.int 0))) (tCons (tOp (uIx K) (tVar 5) (tC (.int 1))) (tNil)))) (tCons (tTupU (tCons (tOp (uIx K) (tVar 5) (tC (.int 0))) (tCons (tC .non) (tNil)))) (tCons (tTupU (tCons (tC (.int 0)) (tCons (tOp (uIx K) (tVar 5) (tC (.int 1))) (tNil)))) (tCons (tTupU (tCons (tOp (uIx K) (tVar 5) (tC (.int 0))) (tCons (tOp (uIx K) (tVar 5) (tC (.int 1))) (tCons (tOp (uIx K) (tVar 5) (tC (.int 1))) (tNil))))) (tCons (tDNewU) (tNil))))))))))) (gName 7)) (t__law_bent_r5 K s__law_draw)
def t__law_bent_r7 (K : PySem.W.Frag) (s__law_draw : Sp) : TS :=
  tSeq (tAsg (tTupU (tCons (tOp (uIx K) (tVar 5) (tC (.int 0))) (tCons (tOp (uIx K) (tOp (uAdd K) (tOp (uIx K) (tVar 1) (tC (.int 2))) (tOp (uIx K) (tVar 1) (tC (.int 0)))) (tGo s__law_draw E0 (tCons (tVar 0) (tCons (tOp (uAdd K) (tCB (uLen K) (tCons (tOp (uIx K) (tVar 1) (tC (.int 2))) (tNil))) (tCB (uLen K) (tCons (tOp (uIx K) (tVar 1) (tC (.int 0))) (tNil)))) (tNil))))) (tNil)))) (gName 6)) (t__law_bent_r6 K s__law_draw)
def t__law_bent (K : PySem.W.Frag) (s__law_draw : Sp) : TS :=
  tSeq (tAsg (tGo s__law_draw E0 (tCons (tVar 0) (tCons (tOp (uAdd K) (tCB (uLen K) (tCons (tVar 3) (tNil))) (tC (.int 1))) (tNil)))) (gName 4)) (tSeq (tAsg (tIf (tTest (tOp (uEq K true) (tVar 2) (tLstU (tNil)))) (tOp (uIx K) (tVar 2) (tGo s__law_draw E0 (tCons (tVar 0) (tCons (tCB (uLen K) (tCons (tVar 2) (tNil))) (tNil))))) (tTupU (tCons (tC (.str "w")) (tCons (tOp (uIx K) (tOp (uIx K) (tVar 1) (tC (.int 0))) (tC (.int 0))) (tCons (tTupU (tNil)) (tNil)))))) (gName 5)) (t__law_bent_r7 K s__law_draw))
theorem dv__law_bent {P : Program} {w : World} {K : PySem.W.Frag} {mg : Str → Option Value} {b : Heap} {a : Addr} {d : FuncData} {sp : Sp} (F : Fn K mg "_law_bent" s__law_bent_ a d ["held", "town", "rows", "plan"])
    {a__law_draw : Addr} {d__law_draw : FuncData} {s__law_draw : Sp} (F__law_draw : Fn K mg "_law_draw" s__law_draw_ a__law_draw d__law_draw ["held", "many"]) (k__law_draw : Keeps P w K mg b CX0 2 a__law_draw d__law_draw ["held", "many"] s__law_draw)
    (n_len : mg "len" = none)
    (n_sorted : mg "sorted" = none)
    (n_tuple : mg "tuple" = none)
    (len : ∀ vs H Q E, sp vs H Q E → vs.length = 4)
    (rd : ∀ vs H Q E, sp vs H Q E → run (t__law_bent K s__law_draw) (start N__law_bent vs) H Q) : Keeps P w K mg b CX0 3 a d ["held", "town", "rows", "plan"] sp := by
  refine keeps0 F.fn sc__law_bent len fun cdv A o s H vs Q E hr h => ⟨t__law_bent K s__law_draw, ?_, rd vs H Q E h⟩
  unfold t__law_bent t__law_bent_r7 t__law_bent_r6 t__law_bent_r5 t__law_bent_r4 t__law_bent_r3 t__law_bent_r2 t__law_bent_r1
  exact (pss_cons (ps_set (i := 4) sc__law_bent.nd rfl (.inl rfl) (pe_go k__law_draw (hr.mono (by decide)) rfl F__law_draw.g F__law_draw.fn.kp F__law_draw.b pass0 (pa_cons (pv 0) (pa_cons (pe_op op_uAdd (pe_callB call_uLen (by rfl) n_len (by decide +kernel) (pa_cons (pv 3) pa_nil)) pe_int) pa_nil))))
  (pss_cons (ps_set (i := 5) sc__law_bent.nd rfl (.inl rfl) (pe_ifExp (pt_cmpR (op_uNe hr.rm.units) (pv 2) (pe_lstU pa_nil) (nomark _)) (pe_ix ix_u (pv 2) (pe_go k__law_draw (hr.mono (by decide)) rfl F__law_draw.g F__law_draw.fn.kp F__law_draw.b pass0 (pa_cons (pv 0) (pa_cons (pe_callB call_uLen (by rfl) n_len (by decide +kernel) (pa_cons (pv 2) pa_nil)) pa_nil))) (fun _ _ => rfl)) (pe_tupU (pa_cons pe_str (pa_cons (pe_ix ix_u (pe_ix ix_u (pv 1) pe_int (fun _ _ => rfl)) pe_int (fun _ _ => rfl)) (pa_cons (pe_tupU pa_nil) pa_nil))))))
  (pss_cons (ps_set (i := 6) sc__law_bent.nd rfl (.inl rfl) (pe_tupU (pa_cons (pe_ix ix_u (pv 5) pe_int (fun _ _ => rfl)) (pa_cons (pe_ix ix_u (pe_op op_uAdd (pe_ix ix_u (pv 1) pe_int (fun _ _ => rfl)) (pe_ix ix_u (pv 1) pe_int (fun _ _ => rfl))) (pe_go k__law_draw (hr.mono (by decide)) rfl F__law_draw.g F__law_draw.fn.kp F__law_draw.b pass0 (pa_cons (pv 0) (pa_cons (pe_op op_uAdd (pe_callB call_uLen (by rfl) n_len (by decide +kernel) (pa_cons (pe_ix ix_u (pv 1) pe_int (fun _ _ => rfl)) pa_nil)) (pe_callB call_uLen (by rfl) n_len (by decide +kernel) (pa_cons (pe_ix ix_u (pv 1) pe_int (fun _ _ => rfl)) pa_nil))) pa_nil))) (fun _ _ => rfl)) pa_nil))))
  (pss_cons (ps_set (i := 7) sc__law_bent.nd rfl (.inl rfl) (pe_lstU (pa_cons pe_non (pa_cons pe_bl (pa_cons pe_str (pa_cons (pe_tupU (pa_cons (pe_ix ix_u (pv 5) pe_int (fun _ _ => rfl)) pa_nil)) (pa_cons (pe_lstU (pa_cons (pe_ix ix_u (pv 5) pe_int (fun _ _ => rfl)) (pa_cons (pe_ix ix_u (pv 5) pe_int (fun _ _ => rfl)) pa_nil))) (pa_cons (pe_tupU (pa_cons (pe_ix ix_u (pv 5) pe_int (fun _ _ => rfl)) (pa_cons pe_non pa_nil))) (pa_cons (pe_tupU (pa_cons pe_int (pa_cons (pe_ix ix_u (pv 5) pe_int (fun _ _ => rfl)) pa_nil))) (pa_cons (pe_tupU (pa_cons (pe_ix ix_u (pv 5) pe_int (fun _ _ => rfl)) (pa_cons (pe_ix ix_u (pv 5) pe_int (fun _ _ => rfl)) (pa_cons (pe_ix ix_u (pv 5) pe_int (fun _ _ => rfl)) pa_nil)))) (pa_cons pe_dnewU pa_nil)))))))))))
  (pss_cons (ps_set (i := 8) sc__law_bent.nd rfl (.inl rfl) (pe_lstU (pa_cons (pe_op op_uAdd (pe_slice sl_u (pv 3) po_none (po_some (pv 4))) (pe_slice sl_u (pv 3) (po_some (pe_op op_uAdd (pv 4) pe_int)) po_none)) (pa_cons (pe_op op_uAdd (pe_op op_uAdd (pe_slice sl_u (pv 3) po_none (po_some (pv 4))) (pe_lstU (pa_cons (pv 6) pa_nil))) (pe_slice sl_u (pv 3) (po_some (pv 4)) po_none)) (pa_cons (pe_callB (call_uSorted hr.rm.units) (by rfl) n_sorted (by decide +kernel) (pa_cons (pe_op op_uAdd (pe_op op_uAdd (pe_slice sl_u (pv 3) po_none (po_some (pv 4))) (pe_lstU (pa_cons (pv 6) pa_nil))) (pe_slice sl_u (pv 3) (po_some (pe_op op_uAdd (pv 4) pe_int)) po_none)) pa_nil)) pa_nil)))))
  (pss_cons (ps_set (i := 8) sc__law_bent.nd rfl (.inl rfl) (pe_op op_uAdd (pv 8) (pe_lstU (pa_cons (pe_revL (pv 3)) (pa_cons (pe_op op_uAdd (pe_op op_uAdd (pe_slice sl_u (pv 3) po_none (po_some (pv 4))) (pe_slice sl_u (pv 3) po_none (po_some pe_int))) (pe_slice sl_u (pv 3) (po_some (pv 4)) po_none)) (pa_cons (pe_callTy call_uTuple (by rfl) n_tuple (by decide +kernel) (pa_cons (pv 3) pa_nil)) (pa_cons (pe_op op_uAdd (pe_slice sl_u (pv 3) (po_some (pv 4)) po_none) (pe_slice sl_u (pv 3) po_none (po_some (pv 4)))) pa_nil)))))))
  (pss_cons (ps_set (i := 8) sc__law_bent.nd rfl (.inl rfl) (pe_op op_uAdd (pv 8) (pe_lstU (pa_cons (pe_op op_uAdd (pe_op op_uAdd (pe_slice sl_u (pv 3) po_none (po_some (pv 4))) (pe_lstU (pa_cons (pe_ix ix_u (pv 7) (pe_go k__law_draw (hr.mono (by decide)) rfl F__law_draw.g F__law_draw.fn.kp F__law_draw.b pass0 (pa_cons (pv 0) (pa_cons pe_int pa_nil))) (fun _ _ => rfl)) pa_nil))) (pe_slice sl_u (pv 3) (po_some (pv 4)) po_none)) (pa_cons (pe_ix ix_u (pv 7) (pe_go k__law_draw (hr.mono (by decide)) rfl F__law_draw.g F__law_draw.fn.kp F__law_draw.b pass0 (pa_cons (pv 0) (pa_cons pe_int pa_nil))) (fun _ _ => rfl)) pa_nil)))))
  (pss_cons (ps_set (i := 8) sc__law_bent.nd rfl (.inl rfl) (pe_op op_uAdd (pv 8) (pe_lstU (pa_cons (pe_op op_uAdd (pe_op op_uAdd (pe_slice sl_u (pv 3) po_none (po_some (pv 4))) (pe_lstU (pa_cons (pv 6) pa_nil))) (pe_slice sl_u (pv 3) (po_some (pe_op op_uAdd (pv 4) pe_int)) po_none)) (pa_cons (pe_callB (call_uSorted hr.rm.units) (by rfl) n_sorted (by decide +kernel) (pa_cons (pe_op op_uAdd (pv 3) (pe_lstU (pa_cons (pv 6) pa_nil))) pa_nil)) (pa_cons (pe_op op_uAdd (pe_lstU (pa_cons (pe_tupU (pa_cons (pe_op op_uAdd (pe_ix ix_u (pv 5) pe_int (fun _ _ => rfl)) pe_str) (pa_cons (pe_ix ix_u (pv 6) pe_int (fun _ _ => rfl)) pa_nil))) pa_nil)) (pv 3)) pa_nil))))))
  (pss_one (ps_ret (pe_ix ix_u (pv 8) (pe_go k__law_draw (hr.mono (by decide)) rfl F__law_draw.g F__law_draw.fn.kp F__law_draw.b pass0 (pa_cons (pv 0) (pa_cons pe_int pa_nil))) (fun _ _ => rfl))))))))))))

abbrev s__law_are_moves_ : Stmt := topS 14
abbrev N__law_are_moves : List Str := ["thing", "one"]
theorem sc__law_are_moves : FnScope N__law_are_moves ["thing"] (defScope s__law_are_moves_) := ⟨rfl, rfl, rfl, by decide +kernel, rfl, by decide +kernel, by decide +kernel⟩
def t__law_are_moves_r1 (K : PySem.W.Frag) : TS :=
  tRet (tCB (rAll K) (tCons (tLc (iU K (tVar 0)) (gName 1) (tYes) (tAndT K (tCB (rIsi K) (tCons (tOp (uIx K) (tVar 1) (tC (.int 0))) (tCons (tC (.ty "str")) (tNil)))) (tCB (rIsi K) (tCons (tOp (uIx K) (tVar 1) (tC (.int 1))) (tCons (tC (.ty "str")) (tNil))))) [1]) (tNil)))
def t__law_are_moves (K : PySem.W.Frag) : TS :=
  tSeq (tIfS (tOr (tNot (tTru K (tCB (rIsi K) (tCons (tVar 0) (tCons (tC (.ty "list")) (tNil)))))) (tNot (tTru K (tCB (rAll K) (tCons (tLc (iU K (tVar 0)) (gName 1) (tYes) (tAndT K (tCB (rIsi K) (tCons (tVar 1) (tCons (tC (.ty "tuple")) (tNil)))) (tOp (uEq K false) (tCB (uLen K) (tCons (tVar 1) (tNil))) (tC (.int 2)))) [1]) (tNil)))))) (tRet (tC (.bl false))) (tNext)) (t__law_are_moves_r1 K)
theorem dv__law_are_moves {P : Program} {w : World} {K : PySem.W.Frag} {mg : Str → Option Value} {b : Heap} {a : Addr} {d : FuncData} {sp : Sp} (F : Fn K mg "_law_are_moves" s__law_are_moves_ a d ["thing"])
    (n_isinstance : mg "isinstance" = none)
    (n_list : mg "list" = none)
    (n_all : mg "all" = none)
    (n_tuple : mg "tuple" = none)
    (n_len : mg "len" = none)
    (n_str : mg "str" = none)
    (len : ∀ vs H Q E, sp vs H Q E → vs.length = 1)
    (rd : ∀ vs H Q E, sp vs H Q E → run (t__law_are_moves K) (start N__law_are_moves vs) H Q) : Keeps P w K mg b CX0 2 a d ["thing"] sp := by
  refine keeps0 F.fn sc__law_are_moves len fun cdv A o s H vs Q E hr h => ⟨t__law_are_moves K, ?_, rd vs H Q E h⟩
  unfold t__law_are_moves t__law_are_moves_r1
  exact (pss_cons (ps_if (PW.pt (pw_or (pt_not (pt_tru (pe_callB call_isi (by rfl) n_isinstance (by decide +kernel) (pa_cons (pv 0) (pa_cons (pe_bltn (v := .ty "list") (by rfl) n_list (by decide +kernel) rfl) pa_nil))))) (pw_or1 (pt_not (pt_tru (pe_callB (cr_all rfl) (by rfl) n_all (by decide +kernel) (pa_cons (pe_lc (own := [("one", 1)]) rfl sc__law_are_moves.nd (pi_u (pv 0)) (blkOk_by (own := [("one", 1)]) (N := N__law_are_moves) (sc := defScope s__law_are_moves_) (by decide +kernel)) (fun _ _ _ _ _ => (pg_name (i := 1) sc__law_are_moves.nd rfl (.inl rfl))) (fun _ _ _ _ _ => pts_nil) (fun _ _ _ _ _ => (pe_andT (pe_callB call_isi (by rfl) n_isinstance (by decide +kernel) (pa_cons (pv 1) (pa_cons (pe_bltn (v := .ty "tuple") (by rfl) n_tuple (by decide +kernel) rfl) pa_nil))) (pe_one (pe_cmpR (op_uEq hr.rm.units) (pe_callB call_uLen (by rfl) n_len (by decide +kernel) (pa_cons (pv 1) pa_nil)) pe_int (nomark _)))))) pa_nil))))))) (pss_one (ps_ret pe_bl)) pss_nil)
  (pss_one (ps_ret (pe_callB (cr_all rfl) (by rfl) n_all (by decide +kernel) (pa_cons (pe_lc (own := [("one", 1)]) rfl sc__law_are_moves.nd (pi_u (pv 0)) (blkOk_by (own := [("one", 1)]) (N := N__law_are_moves) (sc := defScope s__law_are_moves_) (by decide +kernel)) (fun _ _ _ _ _ => (pg_name (i := 1) sc__law_are_moves.nd rfl (.inl rfl))) (fun _ _ _ _ _ => pts_nil) (fun _ _ _ _ _ => (pe_andT (pe_callB call_isi (by rfl) n_isinstance (by decide +kernel) (pa_cons (pe_ix ix_u (pv 1) pe_int (fun _ _ => rfl)) (pa_cons (pe_bltn (v := .ty "str") (by rfl) n_str (by decide +kernel) rfl) pa_nil))) (pe_one (pe_callB call_isi (by rfl) n_isinstance (by decide +kernel) (pa_cons (pe_ix ix_u (pv 1) pe_int (fun _ _ => rfl)) (pa_cons (pe_bltn (v := .ty "str") (by rfl) n_str (by decide +kernel) rfl) pa_nil))))))) pa_nil)))))

abbrev s_law_ : Stmt := topS 15
abbrev N_law : List Str := ["script", "held", "town", "rows", "others", "turn", "plan", "thing", "more", "kept", "some", "found", "row"]
theorem sc_law : FnScope N_law ["script"] (defScope s_law_) := ⟨rfl, rfl, rfl, by decide +kernel, rfl, by decide +kernel, by decide +kernel⟩
def t_law_b1 (K : PySem.W.Frag) (s__law_held : Sp) (s__law_town : Sp) (s__law_rows : Sp) (s__law_draw : Sp) (s__law_plan_by : Sp) (s__law_bent : Sp) (s__law_are_moves : Sp) (s_is_plan : Sp) (s__law_is_plan : Sp) : TS :=
  tAsg (tGo s__law_bent E0 (tCons (tVar 1) (tCons (tVar 2) (tCons (tVar 3) (tCons (tIf (tTru K (tGo s__law_are_moves E0 (tCons (tVar 7) (tNil)))) (tVar 7) (tVar 6)) (tNil)))))) (gName 7)
def t_law_b2 (K : PySem.W.Frag) (s__law_held : Sp) (s__law_town : Sp) (s__law_rows : Sp) (s__law_draw : Sp) (s__law_plan_by : Sp) (s__law_bent : Sp) (s__law_are_moves : Sp) (s_is_plan : Sp) (s__law_is_plan : Sp) : TS :=
  tSeq (tAsg (tGo s_is_plan E0 (tCons (tVar 2) (tCons (tVar 10) (tCons (tVar 7) (tNil))))) (gName 11)) (tIfS (tOr (tNot (tTru K (tCB (rIsi K) (tCons (tVar 11) (tCons (tC (.ty "bool")) (tNil)))))) (tTest (tOp (uEq K true) (tVar 11) (tGo s__law_is_plan E0 (tCons (tVar 10) (tCons (tVar 7) (tNil))))))) (tRet (tC (.bl false))) (tNext))
def t_law_r1 (K : PySem.W.Frag) (s__law_held : Sp) (s__law_town : Sp) (s__law_rows : Sp) (s__law_draw : Sp) (s__law_plan_by : Sp) (s__law_bent : Sp) (s__law_are_moves : Sp) (s_is_plan : Sp) (s__law_is_plan : Sp) : TS :=
  tIfS (tTest (tOp (uEq K true) (tCB (uReprQ K) (tCons (tTupU (tCons (tVar 3) (tCons (tVar 4) (tCons (tVar 7) (tNil))))) (tNil))) (tVar 9))) (tRet (tC (.bl false))) (tNext)
def t_law_r2 (K : PySem.W.Frag) (s__law_held : Sp) (s__law_town : Sp) (s__law_rows : Sp) (s__law_draw : Sp) (s__law_plan_by : Sp) (s__law_bent : Sp) (s__law_are_moves : Sp) (s_is_plan : Sp) (s__law_is_plan : Sp) : TS :=
  tSeq (tAsg (tCB (uReprQ K) (tCons (tTupU (tCons (tVar 3) (tCons (tVar 4) (tCons (tVar 7) (tNil))))) (tNil))) (gName 9)) (tSeq (tFor (iU K (tTupU (tCons (tVar 3) (tCons (tVar 4) (tCons (tVar 3) (tNil)))))) (gName 10) (t_law_b2 K s__law_held s__law_town s__law_rows s__law_draw s__law_plan_by s__law_bent s__law_are_moves s_is_plan s__law_is_plan)) (t_law_r1 K s__law_held s__law_town s__law_rows s__law_draw s__law_plan_by s__law_bent s__law_are_moves s_is_plan s__law_is_plan))
def t_law_b3 (K : PySem.W.Frag) (s__law_held : Sp) (s__law_town : Sp) (s__law_rows : Sp) (s__law_draw : Sp) (s__law_plan_by : Sp) (s__law_bent : Sp) (s__law_are_moves : Sp) (s_is_plan : Sp) (s__law_is_plan : Sp) : TS :=
  tSeq (tAsg (tGo s__law_plan_by E0 (tCons (tVar 1) (tCons (tVar 3) (tNil)))) (gName 6)) (tSeq (tAsg (tVar 6) (gName 7)) (tSeq (tFor (iRng1 (tCons (tOp (uIx K) (tLstU (tCons (tC (.int 0)) (tCons (tC (.int 1)) (tCons (tC (.int 1)) (tCons (tC (.int 2)) (tNil)))))) (tGo s__law_draw E0 (tCons (tVar 1) (tCons (tC (.int 4)) (tNil))))) (tNil))) (gName 8) (t_law_b1 K s__law_held s__law_town s__law_rows s__law_draw s__law_plan_by s__law_bent s__law_are_moves s_is_plan s__law_is_plan)) (t_law_r2 K s__law_held s__law_town s__law_rows s__law_draw s__law_plan_by s__law_bent s__law_are_moves s_is_plan s__law_is_plan)))
def t_law_r3 (K : PySem.W.Frag) (s__law_held : Sp) (s__law_town : Sp) (s__law_rows : Sp) (s__law_draw : Sp) (s__law_plan_by : Sp) (s__law_bent : Sp) (s__law_are_moves : Sp) (s_is_plan : Sp) (s__law_is_plan : Sp) : TS :=
  tRet (tC (.bl true))
def t_law (K : PySem.W.Frag) (s__law_held : Sp) (s__law_town : Sp) (s__law_rows : Sp) (s__law_draw : Sp) (s__law_plan_by : Sp) (s__law_bent : Sp) (s__law_are_moves : Sp) (s_is_plan : Sp) (s__law_is_plan : Sp) : TS :=
  tSeq (tAsg (tGo s__law_held E0 (tCons (tVar 0) (tNil))) (gName 1)) (tSeq (tAsg (tGo s__law_town E0 (tCons (tVar 1) (tNil))) (gName 2)) (tSeq (tAsg (tGo s__law_rows E0 (tCons (tVar 1) (tCons (tVar 2) (tNil)))) (gName 3)) (tSeq (tAsg (tLc (iU K (tVar 3)) (gName 12) (tYes) (tOp (uAdd K) (tSl (uSl K) (tVar 12) (tNoPart) (tPart (tC (.int 1)))) (tTupU (tCons (tOp (uIx K) (tOp (uIx K) (tVar 2) (tC (.int 0))) (tGo s__law_draw E0 (tCons (tVar 1) (tCons (tCB (uLen K) (tCons (tOp (uIx K) (tVar 2) (tC (.int 0))) (tNil))) (tNil))))) (tCons (tSl (uSl K) (tOp (uIx K) (tVar 12) (tC (.int 2))) (tPart (tGo s__law_draw E0 (tCons (tVar 1) (tCons (tC (.int 2)) (tNil))))) (tNoPart)) (tNil))))) [12]) (gName 4)) (tSeq (tFor (iRng1 (tCons (tC (.int 8)) (tNil))) (gName 5) (t_law_b3 K s__law_held s__law_town s__law_rows s__law_draw s__law_plan_by s__law_bent s__law_are_moves s_is_plan s__law_is_plan)) (t_law_r3 K s__law_held s__law_town s__law_rows s__law_draw s__law_plan_by s__law_bent s__law_are_moves s_is_plan s__law_is_plan)))))
theorem dv_law {P : Program} {w : World} {K : PySem.W.Frag} {mg : Str → Option Value} {b : Heap} {a : Addr} {d : FuncData} {sp : Sp} (F : Fn K mg "law" s_law_ a d ["script"])
    {a__law_held : Addr} {d__law_held : FuncData} {s__law_held : Sp} (F__law_held : Fn K mg "_law_held" s__law_held_ a__law_held d__law_held ["script"]) (k__law_held : Keeps P w K mg b CX0 2 a__law_held d__law_held ["script"] s__law_held)
    {a__law_town : Addr} {d__law_town : FuncData} {s__law_town : Sp} (F__law_town : Fn K mg "_law_town" s__law_town_ a__law_town d__law_town ["held"]) (k__law_town : Keeps P w K mg b CX0 4 a__law_town d__law_town ["held"] s__law_town)
    {a__law_rows : Addr} {d__law_rows : FuncData} {s__law_rows : Sp} (F__law_rows : Fn K mg "_law_rows" s__law_rows_ a__law_rows d__law_rows ["held", "town"]) (k__law_rows : Keeps P w K mg b CX0 4 a__law_rows d__law_rows ["held", "town"] s__law_rows)
    {a__law_draw : Addr} {d__law_draw : FuncData} {s__law_draw : Sp} (F__law_draw : Fn K mg "_law_draw" s__law_draw_ a__law_draw d__law_draw ["held", "many"]) (k__law_draw : Keeps P w K mg b CX0 2 a__law_draw d__law_draw ["held", "many"] s__law_draw)
    (n_len : mg "len" = none)
    (n_range : mg "range" = none)
    {a__law_plan_by : Addr} {d__law_plan_by : FuncData} {s__law_plan_by : Sp} (F__law_plan_by : Fn K mg "_law_plan_by" s__law_plan_by_ a__law_plan_by d__law_plan_by ["held", "rows"]) (k__law_plan_by : Keeps P w K mg b CX0 3 a__law_plan_by d__law_plan_by ["held", "rows"] s__law_plan_by)
    {a__law_bent : Addr} {d__law_bent : FuncData} {s__law_bent : Sp} (F__law_bent : Fn K mg "_law_bent" s__law_bent_ a__law_bent d__law_bent ["held", "town", "rows", "plan"]) (k__law_bent : Keeps P w K mg b CX0 3 a__law_bent d__law_bent ["held", "town", "rows", "plan"] s__law_bent)
    {a__law_are_moves : Addr} {d__law_are_moves : FuncData} {s__law_are_moves : Sp} (F__law_are_moves : Fn K mg "_law_are_moves" s__law_are_moves_ a__law_are_moves d__law_are_moves ["thing"]) (k__law_are_moves : Keeps P w K mg b CX0 2 a__law_are_moves d__law_are_moves ["thing"] s__law_are_moves)
    (n_repr : mg "repr" = none)
    {a_is_plan : Addr} {d_is_plan : FuncData} {s_is_plan : Sp} (F_is_plan : Fn K mg "is_plan" s_is_plan_ a_is_plan d_is_plan ["town", "rows", "thing"]) (k_is_plan : Keeps P w K mg b CX0 5 a_is_plan d_is_plan ["town", "rows", "thing"] s_is_plan)
    (n_isinstance : mg "isinstance" = none)
    (n_bool : mg "bool" = none)
    {a__law_is_plan : Addr} {d__law_is_plan : FuncData} {s__law_is_plan : Sp} (F__law_is_plan : Fn K mg "_law_is_plan" s__law_is_plan_ a__law_is_plan d__law_is_plan ["rows", "thing"]) (k__law_is_plan : Keeps P w K mg b CX0 2 a__law_is_plan d__law_is_plan ["rows", "thing"] s__law_is_plan)
    (len : ∀ vs H Q E, sp vs H Q E → vs.length = 1)
    (rd : ∀ vs H Q E, sp vs H Q E → run (t_law K s__law_held s__law_town s__law_rows s__law_draw s__law_plan_by s__law_bent s__law_are_moves s_is_plan s__law_is_plan) (start N_law vs) H Q) : Keeps P w K mg b CX0 6 a d ["script"] sp := by
  refine keeps0 F.fn sc_law len fun cdv A o s H vs Q E hr h => ⟨t_law K s__law_held s__law_town s__law_rows s__law_draw s__law_plan_by s__law_bent s__law_are_moves s_is_plan s__law_is_plan, ?_, rd vs H Q E h⟩
  unfold t_law t_law_r3 t_law_b3 t_law_r2 t_law_r1 t_law_b2 t_law_b1
  exact (pss_cons (ps_set (i := 1) sc_law.nd rfl (.inr rfl) (pe_go k__law_held (hr.mono (by decide)) rfl F__law_held.g F__law_held.fn.kp F__law_held.b pass0 (pa_cons (pv 0) pa_nil)))
  (pss_cons (ps_set (i := 2) sc_law.nd rfl (.inr rfl) (pe_go k__law_town (hr.mono (by decide)) rfl F__law_town.g F__law_town.fn.kp F__law_town.b pass0 (pa_cons (pv 1) pa_nil)))
  (pss_cons (ps_set (i := 3) sc_law.nd rfl (.inl rfl) (pe_go k__law_rows (hr.mono (by decide)) rfl F__law_rows.g F__law_rows.fn.kp F__law_rows.b pass0 (pa_cons (pv 1) (pa_cons (pv 2) pa_nil))))
  (pss_cons (ps_setLc (i := 4) (own := [("row", 12)]) rfl sc_law.nd rfl rfl (sw_true rfl rfl rfl (by decide +kernel)) (pi_u (pv 3)) (blkOk_by (own := [("row", 12)]) (N := N_law) (sc := defScope s_law_) (by decide +kernel)) (fun _ _ _ _ _ => (pg_name (i := 12) sc_law.nd rfl (.inl rfl))) (fun _ _ _ _ _ => pts_nil) (fun _ _ _ _ _ => (pe_op op_uAdd (pe_slice sl_u (pv 12) po_none (po_some pe_int)) (pe_tupU (pa_cons (pe_ix ix_u (pe_ix ix_u (pv 2) pe_int (fun _ _ => rfl)) (pe_go k__law_draw (hr.mono (by decide)) rfl F__law_draw.g F__law_draw.fn.kp F__law_draw.b pass0 (pa_cons (pv 1) (pa_cons (pe_callB call_uLen (by rfl) n_len (by decide +kernel) (pa_cons (pe_ix ix_u (pv 2) pe_int (fun _ _ => rfl)) pa_nil)) pa_nil))) (fun _ _ => rfl)) (pa_cons (pe_slice sl_u (pe_ix ix_u (pv 12) pe_int (fun _ _ => rfl)) (po_some (pe_go k__law_draw (hr.mono (by decide)) rfl F__law_draw.g F__law_draw.fn.kp F__law_draw.b pass0 (pa_cons (pv 1) (pa_cons pe_int pa_nil)))) po_none) pa_nil))))))
  (pss_cons (ps_for PassesOwn.never rfl (pi_range1 (by rfl) n_range (pa_cons pe_int pa_nil)) (pg_name (i := 5) sc_law.nd rfl (.inl rfl)) (pss_cons (ps_set (i := 6) sc_law.nd rfl (.inl rfl) (pe_go k__law_plan_by (hr.mono (by decide)) rfl F__law_plan_by.g F__law_plan_by.fn.kp F__law_plan_by.b pass0 (pa_cons (pv 1) (pa_cons (pv 3) pa_nil))))
  (pss_cons (ps_set (i := 7) sc_law.nd rfl (.inl rfl) (pv 6))
  (pss_cons (ps_for PassesOwn.never rfl (pi_range1 (by rfl) n_range (pa_cons (pe_ix ix_u (pe_lstU (pa_cons pe_int (pa_cons pe_int (pa_cons pe_int (pa_cons pe_int pa_nil))))) (pe_go k__law_draw (hr.mono (by decide)) rfl F__law_draw.g F__law_draw.fn.kp F__law_draw.b pass0 (pa_cons (pv 1) (pa_cons pe_int pa_nil))) (fun _ _ => rfl)) pa_nil)) (pg_name (i := 8) sc_law.nd rfl (.inl rfl)) (pss_one (ps_set (i := 7) sc_law.nd rfl (.inl rfl) (pe_go k__law_bent (hr.mono (by decide)) rfl F__law_bent.g F__law_bent.fn.kp F__law_bent.b pass0 (pa_cons (pv 1) (pa_cons (pv 2) (pa_cons (pv 3) (pa_cons (pe_ifExp (pt_tru (pe_go k__law_are_moves (hr.mono (by decide)) rfl F__law_are_moves.g F__law_are_moves.fn.kp F__law_are_moves.b pass0 (pa_cons (pv 7) pa_nil))) (pv 7) (pv 6)) pa_nil))))))))
  (pss_cons (ps_set (i := 9) sc_law.nd rfl (.inl rfl) (pe_callB (call_uReprQ (hr.mono (by decide))) (by rfl) n_repr (by decide +kernel) (pa_cons (pe_tupU (pa_cons (pv 3) (pa_cons (pv 4) (pa_cons (pv 7) pa_nil)))) pa_nil)))
  (pss_cons (ps_for PassesOwn.never rfl (pi_u (pe_tupU (pa_cons (pv 3) (pa_cons (pv 4) (pa_cons (pv 3) pa_nil))))) (pg_name (i := 10) sc_law.nd rfl (.inl rfl)) (pss_cons (ps_set (i := 11) sc_law.nd rfl (.inl rfl) (pe_go k_is_plan (hr.mono (by decide)) rfl F_is_plan.g F_is_plan.fn.kp F_is_plan.b pass0 (pa_cons (pv 2) (pa_cons (pv 10) (pa_cons (pv 7) pa_nil)))))
  (pss_one (ps_if (PW.pt (pw_or (pt_not (pt_tru (pe_callB call_isi (by rfl) n_isinstance (by decide +kernel) (pa_cons (pv 11) (pa_cons (pe_bltn (v := .ty "bool") (by rfl) n_bool (by decide +kernel) rfl) pa_nil))))) (pw_or1 (pt_cmpR (op_uNe hr.rm.units) (pv 11) (pe_go k__law_is_plan (hr.mono (by decide)) rfl F__law_is_plan.g F__law_is_plan.fn.kp F__law_is_plan.b pass0 (pa_cons (pv 10) (pa_cons (pv 7) pa_nil))) (nomark _))))) (pss_one (ps_ret pe_bl)) pss_nil))))
  (pss_one (ps_if (pt_cmpR (op_uNe hr.rm.units) (pe_callB (call_uReprQ (hr.mono (by decide))) (by rfl) n_repr (by decide +kernel) (pa_cons (pe_tupU (pa_cons (pv 3) (pa_cons (pv 4) (pa_cons (pv 7) pa_nil)))) pa_nil)) (pv 9) (nomark _)) (pss_one (ps_ret pe_bl)) pss_nil))))))))
  (pss_one (ps_ret pe_bl)))))))


local macro_rules | `(tactic| walk_at "hp") => `(tactic| first | assumption | (refine Keep.at (by assumption) ?_ ?_ <;> first | exact nin0 | (refine nin1 ?_; walk_at "ne") | walk_at "hp"))
local macro_rules | `(tactic| walk_at "ne") => `(tactic| first | assumption | (refine Ne.symm ?_; assumption) | exact Tup.neL (by assumption) (by assumption) | exact ne_of_none (by assumption) (by assumption) | exact (ne_of_none (by assumption) (by assumption)).symm)
local macro_rules | `(tactic| walk_at "sx") => `(tactic| try simp only [run, tSeq, tAsg, tIfS, tTest, tOp, tUn, tVar, tC, tRet, tRetN, tDrop, gName, gSub, gCons, gNil, tNext, tCons, tNil, tGo, tCB, tAndT, tOrT, tNotT, tTru, tAnd, tOr, tNot, tChain, tIf, tLstU, tTupU, tSl, tPart, tNoPart, tPar, tBM, tBM0, tDNewU, tDic1,
  List.getElem?_cons_zero, List.getElem?_cons_succ, List.set_cons_zero, List.set_cons_succ, Option.some.injEq, exists_eq_left', exists_eq_left, V.int.injEq, V.bl.injEq, V.str.injEq, V.ref.injEq, true_and, and_true, e_rI, e_rI0, e_rU, e_addI, e_addS, e_mulI, e_abs, e_max2, e_min2, e_str, e_intI, e_intB, e_isN, e_notN, e_truB, e_truI, wipe, tYes, tDicI, tIdx, tM1, tM0, e_lcU, e_lcR1, e_ten6, e_ten18, e_ten60, e_for1, e_for2, e_forU, e_forE, e_lcZ, e_dget, e_dput, e_forE, decide_eq_true_eq, if_true, if_false, ite_true, ite_false, Bool.false_eq_true, Bool.not_true, Bool.not_false, Bool.true_eq_false])
local macro_rules | `(tactic| walk_at "sz") => `(tactic| (first | refine len_le ?_ | refine len_lt ?_ | skip); simp only [List.length_cons, List.length_nil, List.length_append, List.length_map, List.length_replicate, List.length_set]; omega)
theorem cmul_small {i j : Int} (h : -(2 ^ 64) < i ∧ i < 2 ^ 64) : CMul i j := .inl h
theorem cmul_right {i j : Int} (h : -(2 ^ 64) < j ∧ j < 2 ^ 64) : CMul i j := .inr h
/-! ### texts by their signs -/
def cl (z : Str) : List Nat := z.cps.toList
theorem cl_app (x y : Str) : cl (x ++ y) = cl x ++ cl y := PySem.W.KT.app_list x y
theorem cl_inj {x y : Str} (h : cl x = cl y) : x = y := by
  obtain ⟨a⟩ := x
  obtain ⟨b⟩ := y
  exact congrArg Str.mk (Array.ext' h)
theorem cl_len (z : Str) : z.length = (cl z).length := by
  show z.cps.size = z.cps.toList.length
  rw [Array.length_toList]
theorem cl_cut (z : Str) (lo hi : Option Int) : cl (cutS z lo hi) = ((cl z).drop (HT.sIx z.length 0 lo)).take (HT.sIx z.length z.length hi - HT.sIx z.length 0 lo) := by
  unfold cl cutS
  simp
theorem cl_one (c : Nat) : cl ⟨#[c]⟩ = [c] := rfl
theorem cl_join0 : ∀ ys : List Str, cl (Txt.join "" ys) = (ys.map cl).flatten := by
  intro ys
  have h := TL.tl_join "" ys
  rw [TL.join_eq]
  have e : ∀ l : List (List Nat), TL.joinL [] l = l.flatten := by
    intro l
    induction l with
    | nil => rfl
    | cons a r ih =>
      cases r with
      | nil => simp [TL.joinL]
      | cons b r => 
        simp only [TL.joinL, List.nil_append, List.flatten_cons]
        rw [ih]
        simp
  exact h.trans (e _)
def sgn (i : Nat) : Nat := if i < 26 then 97 + i else 48 + (i - 26)
theorem sgn_at : ∀ i, i < 36 → (cl "abcdefghijklmnopqrstuvwxyz0123456789")[i]? = some (sgn i) := by decide +kernel
theorem sgn_inj {i j : Nat} (hi : i < 36) (hj : j < 36) (h : sgn i = sgn j) : i = j := by
  unfold sgn at h
  split at h <;> split at h <;> omega
def isLt (c : Nat) : Prop := 97 ≤ c ∧ c ≤ 122
def isSg (c : Nat) : Prop := isLt c ∨ (48 ≤ c ∧ c ≤ 57)
theorem sgn_sg {i : Nat} (h : i < 36) : isSg (sgn i) := by
  unfold isSg isLt sgn
  split <;> omega
theorem sgn_lt {i : Nat} (h : i < 26) : isLt (sgn i) := by
  unfold isLt sgn
  rw [if_pos h]
  omega
/-- a name by its signs -/
def NameOk (l : List Nat) : Prop := 1 ≤ l.length ∧ l.length ≤ 8 ∧ (∀ c ∈ l, isSg c) ∧ ∀ c, l.head? = some c → isLt c
instance (c : Nat) : Decidable (isLt c) := by unfold isLt; infer_instance
instance (c : Nat) : Decidable (isSg c) := by unfold isSg; infer_instance
def nameB (l : List Nat) : Bool := decide (1 ≤ l.length) && decide (l.length ≤ 8) && l.all (fun c => decide (isSg c)) && (l.take 1).all (fun c => decide (isLt c))
theorem nameB_ok {l : List Nat} (h : nameB l = true) : NameOk l := by
  unfold nameB at h
  simp only [Bool.and_eq_true, decide_eq_true_eq, List.all_eq_true] at h
  obtain ⟨⟨⟨h1, h2⟩, h3⟩, h4⟩ := h
  refine ⟨h1, h2, h3, fun c hc => h4 c ?_⟩
  cases l with
  | nil => cases hc
  | cons a r => cases hc; simp
/-! ### names -/
/-- the word with the sign c at its place t -/
def putAt (w : List Nat) (t c : Nat) : List Nat := w.take t ++ [c] ++ w.drop (t + 1)
theorem putAt_len {w : List Nat} {t c : Nat} (h : t < w.length) : (putAt w t c).length = w.length := by
  unfold putAt
  simp
  omega
theorem putAt_get {w : List Nat} {t c : Nat} (h : t < w.length) : (putAt w t c)[t]? = some c := by
  unfold putAt
  rw [List.append_assoc, List.getElem?_append_right (by simp; omega)]
  simp
  have : t - min t w.length = 0 := by omega
  rw [this]
  rfl
theorem putAt_sg {w : List Nat} {t c : Nat} (h : ∀ x ∈ w, isSg x) (hc : isSg c) : ∀ x ∈ putAt w t c, isSg x := by
  intro x hx
  unfold putAt at hx
  simp only [List.mem_append, List.mem_singleton] at hx
  rcases hx with (hx | rfl) | hx
  · exact h x (List.mem_of_mem_take hx)
  · exact hc
  · exact h x (List.mem_of_mem_drop hx)
theorem putAt_head {w : List Nat} {t c : Nat} (hl : t < w.length) (h : ∀ x, w.head? = some x → isLt x) (hc : t = 0 → isLt c) : ∀ x, (putAt w t c).head? = some x → isLt x := by
  intro x hx
  unfold putAt at hx
  cases t with
  | zero =>
    simp at hx
    rw [← hx]
    exact hc rfl
  | succ t =>
    cases w with
    | nil => exact absurd hl (by simp)
    | cons a r =>
      simp at hx
      exact h x (by simp [hx])
theorem take_name {l : List Nat} {n : Nat} (h1 : 1 ≤ l.length) (h2 : l.length ≤ 8) (h3 : ∀ c ∈ l, isSg c) (h4 : ∀ c, l.head? = some c → isLt c) (hn : 1 ≤ n) : NameOk (l.take n) := by
  refine ⟨by rw [List.length_take]; omega, by rw [List.length_take]; omega, fun c hc => h3 c (List.mem_of_mem_take hc), fun c hc => h4 c ?_⟩
  cases l with
  | nil => simp at hc
  | cons a r =>
    obtain ⟨m, rfl⟩ : ∃ m, n = m + 1 := ⟨n - 1, by omega⟩
    simpa using hc
theorem words_special : Txt.split "free to at sent there cut done off call told passed on open shut grade bare held" " " = (["free", "to", "at", "sent", "there", "cut", "done", "off", "call", "told", "passed", "on", "open", "shut", "grade", "bare", "held"] : List String).map Str.ofString := by decide +kernel
def specials : List Str := (["free", "to", "at", "sent", "there", "cut", "done", "off", "call", "told", "passed", "on", "open", "shut", "grade", "bare", "held", "moved", "stands", "drives"] : List String).map Str.ofString
theorem specials_ok : ∀ z ∈ specials, NameOk (cl z) := by
  intro z hz
  have h : ∀ z ∈ specials, nameB (cl z) = true := by decide +kernel
  exact nameB_ok (h z hz)
/-! ### towns -/
def mV : Option Int → V
  | none => .non
  | some i => .int i
structure Rd where
  one : Str
  two : Str
  there : Option Int
  back : Option Int
structure Tn where
  places : List Str
  roads : List Rd
  stands : List Str
  reach : Int
def minOk (t : Option Int) : Prop := ∀ i, t = some i → 1 ≤ i ∧ i ≤ 60
structure RdOk (ys : List Str) (r : Rd) : Prop where
  one : r.one ∈ ys
  two : r.two ∈ ys
  ne : r.one ≠ r.two
  there : minOk r.there
  back : minOk r.back
  some : r.there ≠ none ∨ r.back ≠ none
structure TnOk (T : Tn) : Prop where
  p1 : 1 ≤ T.places.length
  p10 : T.places.length ≤ 10
  nd : T.places.Nodup
  nm : ∀ y ∈ T.places, NameOk (cl y)
  r18 : T.roads.length ≤ 18
  rd : ∀ r ∈ T.roads, RdOk T.places r
  s1 : 1 ≤ T.stands.length
  s5 : T.stands.length ≤ 5
  sn : T.stands.Nodup
  sp : ∀ y ∈ T.stands, y ∈ T.places
  re0 : 0 ≤ T.reach
  re1 : T.reach ≤ 120
def RdAt (H : Hp) (p : Addr) (r : Rd) : Prop := Tup H p [.str r.one, .str r.two, mV r.there, mV r.back]
/-- the roads' tuples, one by one -/
inductive RdsAt (H : Hp) : List V → List Rd → Prop
  | nil : RdsAt H [] []
  | cons {p : Addr} {r : Rd} {vs : List V} {rs : List Rd} : RdAt H p r → RdsAt H vs rs → RdsAt H (.ref p :: vs) (r :: rs)
def TnAt (H : Hp) (a : Addr) (T : Tn) : Prop := ∃ ap ar as vs, Tup H a [.ref ap, .ref ar, .ref as, .int T.reach] ∧ Tup H ap (T.places.map V.str) ∧ Tup H ar vs ∧ RdsAt H vs T.roads ∧ Tup H as (T.stands.map V.str)
/-- what is changed is no tuple -/
def NoTup (S : List Addr) (H : Hp) : Prop := ∀ a xs, Tup H a xs → a ∉ S
theorem noTup0 {H : Hp} : NoTup [] H := fun _ _ _ => nin0
theorem noTup1 {H : Hp} {l : Addr} {xs : List V} (h : H l = some (.lst xs)) : NoTup [l] H := fun _ _ t => nin1 (t.neL h)
theorem noTupNew {H : Hp} {l : Addr} (h : H l = none) : NoTup [l] H := fun a _ t => nin1 fun z => by
  obtain ⟨o, e⟩ := t.there
  rw [z, h] at e
  cases e
theorem RdAt.keep {S : List Addr} {H H' : Hp} {p : Addr} {r : Rd} (h : RdAt H p r) (k : Keep S H H') (n : NoTup S H) : RdAt H' p r := Tup.keep h k (n _ _ h)
theorem RdsAt.keep {S : List Addr} {H H' : Hp} (k : Keep S H H') (n : NoTup S H) : ∀ {vs : List V} {rs : List Rd}, RdsAt H vs rs → RdsAt H' vs rs
  | _, _, .nil => .nil
  | _, _, .cons h q => .cons (h.keep k n) (RdsAt.keep k n q)
theorem TnAt.keep {S : List Addr} {H H' : Hp} {a : Addr} {T : Tn} (h : TnAt H a T) (k : Keep S H H') (n : NoTup S H) : TnAt H' a T := by
  obtain ⟨ap, ar, as, vs, h1, h2, h3, h4, h5⟩ := h
  exact ⟨ap, ar, as, vs, h1.keep k (n _ _ h1), h2.keep k (n _ _ h2), h3.keep k (n _ _ h3), h4.keep k n, h5.keep k (n _ _ h5)⟩
theorem RdsAt.len {H : Hp} : ∀ {vs : List V} {rs : List Rd}, RdsAt H vs rs → vs.length = rs.length
  | _, _, .nil => rfl
  | _, _, .cons _ q => congrArg (· + 1) q.len
theorem RdsAt.snoc {H : Hp} {p : Addr} {r : Rd} (h : RdAt H p r) : ∀ {vs : List V} {rs : List Rd}, RdsAt H vs rs → RdsAt H (vs ++ [.ref p]) (rs ++ [r])
  | _, _, .nil => .cons h .nil
  | _, _, .cons h' q => .cons h' (RdsAt.snoc h q)
theorem RdsAt.get {H : Hp} : ∀ {vs : List V} {rs : List Rd} {i : Nat} {r : Rd}, RdsAt H vs rs → rs[i]? = some r → ∃ p, vs[i]? = some (.ref p) ∧ RdAt H p r
  | _, _, _, _, .nil, e => by simp at e
  | _, _, 0, _, .cons (p := p) h _, e => by
    simp at e
    subst e
    exact ⟨p, rfl, h⟩
  | _, _, i + 1, _, .cons _ q, e => by
    obtain ⟨p, h1, h2⟩ := RdsAt.get (i := i) q (by simpa using e)
    exact ⟨p, by simpa using h1, h2⟩
theorem turned_sub {ys : List Str} {a k : Nat} (ha : a ≤ ys.length) (hk : k ≤ ys.length) : (((ys ++ ys).drop a).take k).Sublist (ys.drop a ++ ys.take a) := by
  rw [List.drop_append_of_le_length ha, List.take_append]
  refine List.Sublist.append (List.take_sublist _ _) ?_
  have : k - (ys.drop a).length ≤ a := by rw [List.length_drop]; omega
  exact List.IsPrefix.sublist (List.take_prefix_take_left this)
theorem turned_nodup {ys : List Str} {a k : Nat} (h : ys.Nodup) (ha : a ≤ ys.length) (hk : k ≤ ys.length) : (((ys ++ ys).drop a).take k).Nodup := by
  have e : (ys.drop a ++ ys.take a).Nodup := by
    have h2 := h
    rw [← List.take_append_drop a ys, List.nodup_append] at h2
    rw [List.nodup_append]
    exact ⟨h2.2.1, h2.1, fun x hx y hy e => h2.2.2 y hy x hx e.symm⟩
  exact e.sublist (turned_sub ha hk)
theorem turned_mem {ys : List Str} {a k : Nat} : ∀ y ∈ ((ys ++ ys).drop a).take k, y ∈ ys := fun y hy => by
  have := List.mem_of_mem_drop (List.mem_of_mem_take hy)
  simpa using this
/-! rows of any kind -/
inductive Rws {α : Type} (f : α → List V) (H : Hp) : List V → List α → Prop
  | nil : Rws f H [] []
  | cons {p : Addr} {r : α} {vs : List V} {rs : List α} : Tup H p (f r) → Rws f H vs rs → Rws f H (.ref p :: vs) (r :: rs)
section
variable {α : Type} {f : α → List V} {H H' : Hp}
theorem Rws.keep {S : List Addr} (k : Keep S H H') (n : NoTup S H) : ∀ {vs : List V} {rs : List α}, Rws f H vs rs → Rws f H' vs rs
  | _, _, .nil => .nil
  | _, _, .cons h q => .cons (h.keep k (n _ _ h)) (Rws.keep k n q)
theorem Rws.len : ∀ {vs : List V} {rs : List α}, Rws f H vs rs → vs.length = rs.length
  | _, _, .nil => rfl
  | _, _, .cons _ q => congrArg (· + 1) q.len
theorem Rws.snoc {p : Addr} {r : α} (h : Tup H p (f r)) : ∀ {vs : List V} {rs : List α}, Rws f H vs rs → Rws f H (vs ++ [.ref p]) (rs ++ [r])
  | _, _, .nil => .cons h .nil
  | _, _, .cons h' q => .cons h' (Rws.snoc h q)
theorem Rws.get : ∀ {vs : List V} {rs : List α} {i : Nat} {r : α}, Rws f H vs rs → rs[i]? = some r → ∃ p, vs[i]? = some (.ref p) ∧ Tup H p (f r)
  | _, _, _, _, .nil, e => by simp at e
  | _, _, 0, _, .cons (p := p) h _, e => by
    simp at e
    subst e
    exact ⟨p, rfl, h⟩
  | _, _, i + 1, _, .cons _ q, e => by
    obtain ⟨p, h1, h2⟩ := Rws.get (i := i) q (by simpa using e)
    exact ⟨p, by simpa using h1, h2⟩
end
/-! ### things in a row -/
abbrev EI {α β : Type} (R : α → β → Prop) (vs : List α) (rs : List β) : Prop := PySem.W.EachIs R vs rs
theorem ei_snoc {α β : Type} {R : α → β → Prop} {v : α} {r : β} (h : R v r) : ∀ {vs : List α} {rs : List β}, EI R vs rs → EI R (vs ++ [v]) (rs ++ [r])
  | _, _, .nil => .cons h .nil
  | _, _, .cons h' q => .cons h' (ei_snoc h q)
theorem ei_get {α β : Type} {R : α → β → Prop} : ∀ {vs : List α} {rs : List β} {i : Nat} {r : β}, EI R vs rs → rs[i]? = some r → ∃ v, vs[i]? = some v ∧ R v r
  | _, _, _, _, .nil, e => by simp at e
  | _, _, 0, _, .cons (a := p) h _, e => by
    simp at e
    subst e
    exact ⟨p, rfl, h⟩
  | _, _, i + 1, _, .cons _ q, e => by
    obtain ⟨p, h1, h2⟩ := ei_get (i := i) q (by simpa using e)
    exact ⟨p, by simpa using h1, h2⟩
theorem ei_got {α β : Type} {R : α → β → Prop} {vs : List α} {rs : List β} {i : Nat} {v : α} (h : EI R vs rs) (e : vs[i]? = some v) : ∃ r, rs[i]? = some r ∧ R v r := by
  have hi : i < rs.length := by rw [← h.length]; exact (List.getElem?_eq_some_iff.mp e).1
  obtain ⟨v', h1, h2⟩ := ei_get h (List.getElem?_eq_getElem hi)
  rw [e] at h1
  cases h1
  exact ⟨_, List.getElem?_eq_getElem hi, h2⟩
def NoT (S : List Addr) (H : Hp) : Prop := ∀ a ∈ S, H a = none ∨ ∃ xs, H a = some (.lst xs)
theorem sqt_keep {K : PySem.W.Frag} {S : List Addr} {H H' : Hp} {a : Addr} {xs : List V} (h : SqT K H a xs) (k : Keep S H H') (n : NoT S H) : SqT K H' a xs := by
  have na : ∀ {o : HO}, H a = some o → (∀ ys, o ≠ .lst ys) → a ∉ S := fun e ne hm => by
    rcases n a hm with z | ⟨ys, z⟩
    · rw [e] at z; cases z
    · rw [e] at z; cases z; exact ne _ rfl
  rcases h with (h | ⟨o, h⟩) | h
  · exact .inl (.inl (k _ _ (na h fun ys z => nomatch z) h))
  · exact .inl (.inr ⟨o, k _ _ (na h fun ys z => nomatch z) h⟩)
  · exact .inr h
theorem noT0 {H : Hp} : NoT [] H := fun _ h => (List.not_mem_nil h).elim
theorem noT1 {H : Hp} {l : Addr} {xs : List V} (h : H l = some (.lst xs)) : NoT [l] H := fun a ha => .inr ⟨xs, by rw [List.mem_singleton.mp ha]; exact h⟩
theorem noTn {H : Hp} {l : Addr} (h : H l = none) : NoT [l] H := fun a ha => .inl (by rw [List.mem_singleton.mp ha]; exact h)
theorem NoT.tup {S : List Addr} {H : Hp} (n : NoT S H) : NoTup S H := fun a xs t ha => by
  rcases n a ha with z | ⟨ys, z⟩
  · obtain ⟨o, e⟩ := t.there
    rw [e] at z; cases z
  · exact t.neL z rfl
/-- a list or a tuple that stands still -/
def Sq (H : Hp) (a : Addr) (xs : List V) : Prop := H a = some (.lst xs) ∨ Tup H a xs
theorem Sq.keep {S : List Addr} {H H' : Hp} {a : Addr} {xs : List V} (h : Sq H a xs) (k : Keep S H H') (n : a ∉ S) : Sq H' a xs := h.elim (fun h => .inl (k _ _ n h)) fun h => .inr (h.keep k n)
theorem Sq.there {H : Hp} {a : Addr} {xs : List V} (h : Sq H a xs) : ∃ o, H a = some o := h.elim (fun h => ⟨_, h⟩) fun h => h.there
/-- a comprehension over a list or tuple of things -/
theorem g_CE {K : PySem.W.Frag} {α : Type} {RR : Hp → V → α → Prop} {g : TG} {tt : TT} {te : TE} {vs : List Nat} {σ : L2.St} {H1 : Hp} {Q : VK} {a : Addr} {xs : List V} {rs : List α} (hx : Sq H1 a xs) (he : EI (RR H1) xs rs)
    (hk : ∀ H H' x r, RR H x r → Keep [] H H' → RR H' x r) (P : Nat → Hp → List V → Prop) (p0 : ∀ D H2, H1 D = none → Keep [] H1 H2 → P 0 H2 [])
    (ps : ∀ D i x r H acc (R : VK) (R0 : Hp → Prop), H1 D = none → rs[i]? = some r → Keep [] H1 H → H D = some (.lst acc) → RR H x r → P i H acc →
      (∀ y H4, Keep [] H H4 → acc.length < sizeLine → (∀ H5, Keep [D] H4 H5 → P (i + 1) H5 (acc ++ [y])) → R y H4) → (∀ H3, Keep [] H H3 → P (i + 1) H3 acc → R0 H3) →
      g x (wipe σ vs) H fun σ2 H2 => wipe σ2 vs = wipe σ vs ∧ tt σ2 H2 fun b H3 => if b = true then te σ2 H3 R else R0 H3)
    (pd : ∀ D H acc, H1 D = none → Keep [] H1 H → H D = some (.lst acc) → P rs.length H acc → Q (.ref D) H) : CU K g tt te vs σ Q (.ref a) H1 := by
  have L : CLoop [] xs.length (fun i => xs.getD i .non) g tt te vs σ H1 Q := by
    refine ⟨P, p0, fun D i H acc R R0 nD hi k e p hR hR0 => ?_, fun D H acc n k e p => pd D H acc n k e (by rw [← he.length]; exact p)⟩
    obtain ⟨r, e1, e2⟩ := ei_got he (List.getElem?_eq_getElem hi)
    have e3 : xs.getD i .non = xs[i] := by rw [List.getD_eq_getElem?_getD, List.getElem?_eq_getElem hi]; rfl
    show g (xs.getD i .non) _ _ _
    rw [e3]
    exact ps D i _ r H acc R R0 nD e1 k e (hk _ _ _ _ e2 k) p hR hR0
  exact hx.elim (fun h => g_CL (S := []) (fun _ h => (List.not_mem_nil h).elim) h nin0 L) fun h => g_CT (S := []) (fun _ h => (List.not_mem_nil h).elim) h nin0 L
/-- a for over a list or tuple of things -/
theorem g_FEs {K : PySem.W.Frag} {α : Type} {RR : Hp → V → α → Prop} {g : TG} {tb : TS} {D : Ends} {σ : L2.St} {H1 : Hp} {a : Addr} {xs : List V} {rs : List α} (S : List Addr) (hx : Sq H1 a xs) (na : a ∉ S) (he : EI (RR H1) xs rs)
    (hk : ∀ H' x r, RR H1 x r → Keep S H1 H' → RR H' x r) (Pv : Nat → L2.St → Hp → Prop) (h0 : Pv 0 σ H1)
    (hs : ∀ i x r σ H, rs[i]? = some r → Keep S H1 H → RR H x r → Pv i σ H → g x σ H fun σ2 H2 => tb { D with nx := fun σ' H' => Keep S H1 H' ∧ Pv (i + 1) σ' H', ct := fun σ' H' => Keep S H1 H' ∧ Pv (i + 1) σ' H', bk := D.nx } σ2 H2)
    (hd : ∀ σ H, Keep S H1 H → Pv rs.length σ H → D.nx σ H) : FU K g tb D σ (.ref a) H1 := by
  have hl := he.length
  have st : ∀ (i : Nat) (x : V) (σ : L2.St) (H : Hp), xs[i]? = some x → (Keep S H1 H ∧ Pv i σ H) → g x σ H fun σ2 H2 => tb { D with nx := fun σ' H' => Keep S H1 H' ∧ Pv (i + 1) σ' H', ct := fun σ' H' => Keep S H1 H' ∧ Pv (i + 1) σ' H', bk := D.nx } σ2 H2 := fun i x σ H ex ⟨k, p⟩ => by
    obtain ⟨r, e1, e2⟩ := ei_got he ex
    exact hs i x r σ H e1 k (hk _ _ _ e2 k) p
  rcases hx with h | h
  · exact g_FL (fun i σ H => Keep S H1 H ∧ Pv i σ H) (lst_sq h) ⟨Keep.refl _ _, h0⟩ (fun i σ H _ p => lst_sq (p.1 _ _ na h)) (fun i x σ H ex p => st i x σ H ex p) fun σ H p => hd σ H p.1 (by rw [← hl]; exact p.2)
  · exact g_FT (fun i σ H => Keep S H1 H ∧ Pv i σ H) h ⟨Keep.refl _ _, h0⟩ (fun i σ H _ p => h.keep p.1 na) (fun i x σ H ex p => st i x σ H ex p) fun σ H p => hd σ H p.1 (by rw [← hl]; exact p.2)

/-! ### the pen, a dict -/
theorem nCA : ¬ ((Sum.inr ("cells" : Str) : Key) = Sum.inr ("at" : Str)) := by decide +kernel
theorem nCL : ¬ ((Sum.inr ("cells" : Str) : Key) = Sum.inr ("left" : Str)) := by decide +kernel
theorem nAL : ¬ ((Sum.inr ("at" : Str) : Key) = Sum.inr ("left" : Str)) := by decide +kernel
theorem nLA : ¬ ((Sum.inr ("left" : Str) : Key) = Sum.inr ("at" : Str)) := by decide +kernel
def penK (c : Addr) (at' lf : Int) : List (Key × V) := [(.inr "cells", .ref c), (.inr "at", .int at'), (.inr "left", .int lf)]
structure Pen (H : Hp) (d c : Addr) (cells : List Int) (at' lf : Int) : Prop where
  d : H d = some (.dK (penK c at' lf))
  c : H c = some (.lst (cells.map V.int))
  l : cells.length ≤ 63
  a0 : 0 ≤ at'
  l0 : 0 ≤ lf
/-- the pen, at most n times asked -/
def PenOk (H : Hp) (d c : Addr) (n : Nat) : Prop := ∃ cells at' lf, Pen H d c cells at' lf ∧ at' ≤ n
theorem PenOk.mono {H : Hp} {d c : Addr} {n m : Nat} (h : PenOk H d c n) (l : n ≤ m) : PenOk H d c m := by
  obtain ⟨cells, a, b, p, h⟩ := h
  exact ⟨cells, a, b, p, by omega⟩
theorem Pen.keep {H H' : Hp} {d c : Addr} {cells : List Int} {at' lf : Int} (p : Pen H d c cells at' lf) (k : Keep [] H H') : Pen H' d c cells at' lf := ⟨k _ _ nin0 p.d, k _ _ nin0 p.c, p.l, p.a0, p.l0⟩
theorem PenOk.keep {H H' : Hp} {d c : Addr} {n : Nat} (h : PenOk H d c n) (k : Keep [] H H') : PenOk H' d c n := by
  obtain ⟨cells, a, b, p, h⟩ := h
  exact ⟨cells, a, b, p.keep k, h⟩
theorem PenOk.keepL {H H' : Hp} {d c l : Addr} {n : Nat} (h : PenOk H d c n) (k : Keep [l] H H') (n1 : d ≠ l) (n2 : c ≠ l) : PenOk H' d c n := by
  obtain ⟨cells, a, b, p, h⟩ := h
  exact ⟨cells, a, b, ⟨k _ _ (nin1 n1) p.d, k _ _ (nin1 n2) p.c, p.l, p.a0, p.l0⟩, h⟩
theorem PenOk.new {H : Hp} {d c l : Addr} {n : Nat} (h : PenOk H d c n) (e : H l = none) : d ≠ l ∧ c ≠ l := by
  obtain ⟨cells, a, b, p, h⟩ := h
  exact ⟨ne_of_none p.d e, ne_of_none p.c e⟩
theorem PenOk.there {H : Hp} {d c : Addr} {n : Nat} (h : PenOk H d c n) : ∀ b ∈ [d], ∃ o, H b = some o := by
  obtain ⟨cells, a, b, p, h⟩ := h
  intro b hb
  rw [List.mem_singleton.mp hb]
  exact ⟨_, p.d⟩
theorem PenOk.neT {H : Hp} {d c a : Addr} {n : Nat} {xs : List V} (h : PenOk H d c n) (t : Tup H a xs) : a ≠ d := by
  obtain ⟨cells, x, b, p, h⟩ := h
  exact t.neD p.d
theorem PenOk.noTup {H : Hp} {d c : Addr} {n : Nat} (h : PenOk H d c n) : NoTup [d] H := fun a xs t => nin1 (h.neT t)
theorem Pen.ne {H : Hp} {d c : Addr} {cells : List Int} {a l : Int} (p : Pen H d c cells a l) : c ≠ d := fun z => by
  have := p.c
  rw [z, p.d] at this
  cases this
theorem penK_cells {c : Addr} {a l : Int} : valV (penK c a l) (.inr "cells") = some (.ref c) := valV_pos rfl
theorem penK_at {c : Addr} {a l : Int} : valV (penK c a l) (.inr "at") = some (.int a) := by
  unfold penK
  rw [valV_neg nCA, valV_pos rfl]
theorem penK_left {c : Addr} {a l : Int} : valV (penK c a l) (.inr "left") = some (.int l) := by
  unfold penK
  rw [valV_neg nCL, valV_neg nAL, valV_pos rfl]
theorem penK_put_at {c : Addr} {a l v : Int} : putK (penK c a l) (.inr "at") (.int v) = penK c v l := by
  unfold putK penK
  simp
  exact ⟨fun h => nCA (congrArg Sum.inr h), fun h => absurd (congrArg Sum.inr h) nLA⟩
theorem penK_put_left {c : Addr} {a l v : Int} : putK (penK c a l) (.inr "left") (.int v) = penK c a v := by
  unfold putK penK
  simp
  exact ⟨fun h => nCL (congrArg Sum.inr h), fun h => absurd (congrArg Sum.inr h) nAL⟩
section
variable {H : Hp} {d c : Addr} {cells : List Int} {a l : Int} {Q : VK}
theorem g_cells (p : Pen H d c cells a l) (q : Q (.ref c) H) : uDG (.ref d) (.str "cells") H Q := ⟨d, _, rfl, .inl ⟨_, .inr "cells", .inl p.d, rfl, penK_cells.symm⟩, q⟩
theorem g_at (p : Pen H d c cells a l) (q : Q (.int a) H) : uDG (.ref d) (.str "at") H Q := ⟨d, _, rfl, .inl ⟨_, .inr "at", .inl p.d, rfl, penK_at.symm⟩, q⟩
theorem g_left (p : Pen H d c cells a l) (q : Q (.int l) H) : uDG (.ref d) (.str "left") H Q := ⟨d, _, rfl, .inl ⟨_, .inr "left", .inl p.d, rfl, penK_left.symm⟩, q⟩
theorem g_putAt {v : Int} {R : Hp → Prop} (p : Pen H d c cells a l) (hv : 0 ≤ v) (q : ∀ H', Keep [d] H H' → Pen H' d c cells v l → R H') : uDP (.ref d) (.str "at") (.int v) H R := by
  refine ⟨d, _, rfl, .inl ⟨_, .inr "at", p.d, rfl, len_lt (by simp [penK]), rfl⟩, q _ Keep.set ⟨?_, ?_, p.l, hv, p.l0⟩⟩
  · rw [upd_same, penK_put_at]
  · exact Keep.set _ _ (nin1 p.ne) p.c
theorem g_putLeft {v : Int} {R : Hp → Prop} (p : Pen H d c cells a l) (hv : 0 ≤ v) (q : ∀ H', Keep [d] H H' → Pen H' d c cells a v → R H') : uDP (.ref d) (.str "left") (.int v) H R := by
  refine ⟨d, _, rfl, .inl ⟨_, .inr "left", p.d, rfl, len_lt (by simp [penK]), rfl⟩, q _ Keep.set ⟨?_, ?_, p.l, p.a0, hv⟩⟩
  · rw [upd_same, penK_put_left]
  · exact Keep.set _ _ (nin1 p.ne) p.c
end
def spHeld (K : PySem.W.Frag) : Sp := fun vs H Q _ => ∃ (a : Addr) (ns : List Int), vs = [.ref a] ∧ Scr K H a (ns.map V.int) ∧ ns.length ≤ 63 ∧ ∀ d c H', H d = none → H c = none → Keep [] H H' → PenOk H' d c 0 → Q (.ref d) H'
theorem cutH_map {ns : List Int} {lo hi : Option Int} : ∃ ms : List Int, cutV (ns.map V.int) lo hi = ms.map V.int ∧ ms.length ≤ ns.length := by
  refine ⟨(ns.drop (HT.sIx ns.length 0 lo)).take (HT.sIx ns.length ns.length hi - HT.sIx ns.length 0 lo), ?_, ?_⟩
  · unfold cutV
    rw [List.length_map, List.map_take, List.map_drop]
  · rw [List.length_take, List.length_drop]
    omega
theorem rd_held (K : PySem.W.Frag) : ∀ vs H Q E, spHeld K vs H Q E → run (t__law_held K) (L2.start N__law_held vs) H Q := by
  rintro _ H Q _ ⟨a, ns, rfl, hS, hl, q⟩
  show run (t__law_held K) [some (.ref a)] H Q
  unfold t__law_held
  walk_at "sx"
  unfold tDisp
  intro d nd
  have k1 : Keep [] H (upd H d (.dK [])) := Keep.new nd
  have e1 : (upd H d (.dK [])) d = some (.dK []) := upd_same
  generalize upd H d (.dK []) = H1 at k1 e1
  simp only [tPairs]
  walk_at "sx"
  refine g_slL (hS.keep0 k1).sq fun l2 H2 n2 k2 e2 => g_listL e2 fun l3 H3 n3 k3 e3 => ?_
  obtain ⟨ms, em, lm⟩ := cutH_map (ns := ns) (lo := none) (hi := some 63)
  rw [em] at e3
  have ed := (k2.trans k3) _ _ nin0 e1
  refine ⟨ed, penK l3 0 0, rfl, by simp [penK], ?_⟩
  have em2 : mergeK [] (penK l3 0 0) = penK l3 0 0 := by
    unfold mergeK penK
    simp only [List.foldl_cons, List.foldl_nil]
    have s2 : putK [((Sum.inr ("cells" : Str) : Key), V.ref l3)] (Sum.inr ("at" : Str)) (V.int 0) = [((Sum.inr ("cells" : Str) : Key), V.ref l3), (Sum.inr ("at" : Str), V.int 0)] := putK_new _ (by rw [valV_neg nCA, valV_nil])
    rw [putK_new _ valV_nil, List.nil_append, s2, putK_new _ (by rw [valV_neg nCL, valV_neg nAL, valV_nil])]
    rfl
  rw [em2]
  have ks : Keep [d] H3 (upd H3 d (.dK (penK l3 0 0))) := Keep.set
  have es : (upd H3 d (.dK (penK l3 0 0))) d = some (.dK (penK l3 0 0)) := upd_same
  have hne : l3 ≠ d := (ne_of_none (k2 _ _ nin0 e1) n3).symm
  exact q d l3 _ nd ((k1.trans k2).free nin0 n3) ((k1.trans (k2.trans k3)).past ks nd) ⟨ms, 0, 0, ⟨es, ks _ _ (nin1 hne) e3, by omega, Int.le_refl _, Int.le_refl _⟩, Int.le_refl _⟩
theorem cdiv_pos {i m : Int} (h1 : 1 ≤ m) (h2 : m ≤ 1000) : CDiv i m := by
  unfold CDiv
  constructor <;> omega
theorem dp_ints {K : PySem.W.Frag} {H : Hp} : ∀ (is : List Int), ∃ ds, DpAll K H (is.map V.int) ds ∧ ds.length = is.length ∧ PyData.canLayAll0 ds = true ∧ PyData.depthAll ds ≤ 0
  | [] => ⟨[], .nil, rfl, rfl, by simp [PyData.depthAll]⟩
  | i :: is => by
    obtain ⟨ds, h1, h2, h3, h4⟩ := dp_ints is
    refine ⟨_ :: ds, .cons (.int i) h1, by simp [h2], by simp [PyData.canLayAll0, PyData.canLay0, h3], ?_⟩
    simp [PyData.depthAll, PyData.depth] at *
    omega
theorem ne_nil_ints {K : PySem.W.Frag} {H : Hp} {a b : Addr} {is : List Int} {Q : VK} (h : H a = some (.lst (is.map V.int))) (e : H b = some (.lst [])) (q : Q (.bl (!decide (is = []))) H) : uEq K true (.ref a) (.ref b) H Q := by
  obtain ⟨ds, h1, h2, h3, h4⟩ := dp_ints (K := K) (H := H) is
  refine .inr ⟨_, _, .lst (lst_sq h) h1, .lst (lst_sq e) .nil, ?_, by decide +kernel, ?_⟩
  · unfold SeqAt.shaped
    rw [Bool.and_eq_true_iff]
    refine ⟨by simp [PyData.canLay0, h3], decide_eq_true ?_⟩
    simp [PyData.depth]
    omega
  · rw [if_pos rfl]
    cases is with
    | nil =>
      cases ds with
      | nil => exact q
      | cons _ _ => simp at h2
    | cons s ss =>
      cases ds with
      | nil => simp at h2
      | cons _ _ => exact q
def spDraw : Sp := fun vs H Q _ => ∃ (d c : Addr) (m : Int) (n : Nat), vs = [.ref d, .int m] ∧ 1 ≤ m ∧ m ≤ 1000 ∧ n < 1000000 ∧ PenOk H d c n ∧ ∀ v H', Keep [d] H H' → PenOk H' d c (n + 1) → 0 ≤ v → v < m → Q (.int v) H'
theorem rd_draw (K : PySem.W.Frag) : ∀ vs H Q E, spDraw vs H Q E → run (t__law_draw K) (L2.start N__law_draw vs) H Q := by
  rintro _ H Q _ ⟨d, c, m, n, rfl, m1, m2, hn, ⟨cells, at', lf, p, hat⟩, q⟩
  show run (t__law_draw K) [some (.ref d), some (.int m), none, none, none, none] H Q
  have mod : ∀ x : Int, 0 ≤ x % m ∧ x % m < m := fun x => ⟨Int.emod_nonneg x (by omega), Int.emod_lt_of_pos x (by omega)⟩
  have a0 := p.a0
  have small : -(2 ^ 64) < at' ∧ at' < 2 ^ 64 := by omega
  have last : ∀ (H1 : Hp) (lf : Int) (cell : Int) (y2 y5 : Option V), Keep [d] H H1 → Pen H1 d c cells (at' + 1) lf → t__law_draw_r1 K { nx := fun x H' => Q .non H', rt := Q } [some (.ref d), some (.int m), y2, some (.int at'), some (.int cell), y5] H1 := fun H1 lf cell y2 y5 k1 p1 => by
    unfold t__law_draw_r1
    walk_at "sx"
    refine ⟨by decide, cmul_right (by decide), cmul_small (by decide), cmul_right small, cmul_small (by decide), by decide, cmul_right (by decide), ⟨by decide, by decide⟩, by decide, ⟨by decide, by decide⟩, by omega, ?_⟩
    exact q _ H1 k1 ⟨cells, _, lf, p1, by omega⟩ (mod _).1 (mod _).2
  have hc : ∀ H1, Pen H1 d c cells (at' + 1) lf → Keep [d] H H1 → ∀ (cell : Int) (y2 y5 : Option V), True := fun _ _ _ _ _ _ => trivial
  unfold t__law_draw
  walk_at "sx"
  refine g_left p ?_
  walk_at "sx"
  split
  · refine g_left p ?_
    walk_at "sx"
    refine ⟨by omega, g_left p ?_⟩
    walk_at "sx"
    refine ⟨cdiv_pos m1 m2, g_putLeft p (Int.ediv_nonneg p.l0 (by omega)) fun H1 k1 p1 => ?_⟩
    walk_at "sx"
    exact q _ H1 k1 ⟨cells, _, _, p1, by omega⟩ (mod _).1 (mod _).2
  · unfold t__law_draw_r2
    walk_at "sx"
    refine g_at p ?_
    walk_at "sx"
    refine g_putAt p (by omega) fun H1 k1 p1 => ?_
    walk_at "sx"
    refine g_cells p1 ⟨by walk_at "sz", fun e H2 n2 k2 e2 => ?_⟩
    have p2 := p1.keep k2
    have k12 : Keep [d] H H2 := k1.trans k2.all
    refine ne_nil_ints p2.c e2 ?_
    by_cases hc : cells = []
    · rw [decide_eq_true hc]
      walk_at "sx"
      refine ⟨⟨by decide, by decide, by decide⟩, ?_⟩
      rw [if_neg (by decide)]
      exact last H2 lf 0 none none k12 p2
    · rw [decide_eq_false hc]
      walk_at "sx"
      have hl : 0 < cells.length := List.length_pos_iff.mpr hc
      refine g_cells p2 (g_cells p2 (g_lenL p2.c ?_))
      walk_at "sx"
      rw [List.length_map]
      have x1 := Int.emod_nonneg at' (show (cells.length : Int) ≠ 0 by omega)
      have x2 := Int.emod_lt_of_pos at' (show 0 < (cells.length : Int) by omega)
      have hj : (at' % (cells.length : Int)).toNat < cells.length := by omega
      refine ⟨by omega, g_ixL p2.c (at_lit (v := .int (cells[(at' % (cells.length : Int)).toNat])) _ (show at' % (cells.length : Int) = ((at' % (cells.length : Int)).toNat : Int) by omega) (by rw [List.getElem?_map, List.getElem?_eq_getElem hj]; rfl)) ?_⟩
      generalize cells[(at' % (cells.length : Int)).toNat] = cell
      walk_at "sx"
      refine ⟨⟨by decide, by decide, by decide⟩, ?_⟩
      split
      · rename_i hge
        refine g_cells p2 (g_lenL p2.c ?_)
        walk_at "sx"
        split
        · refine ⟨⟨by decide, by decide, by decide⟩, cdiv_pos m1 m2, g_putLeft p2 (Int.ediv_nonneg (by omega) (by omega)) fun H3 k3 p3 => ?_⟩
          walk_at "sx"
          refine ⟨⟨by decide, by decide, by decide⟩, by omega, q _ H3 (k12.trans k3) ⟨cells, _, _, p3, by omega⟩ (mod _).1 (mod _).2⟩
        · exact last H2 lf cell none none k12 p2
      · exact last H2 lf cell none none k12 p2
def minB (o : Option Int) : Prop := ∀ i, o = some i → 1 ≤ i ∧ i ≤ 60
def spMinutes : Sp := fun vs H Q _ => ∃ (d c : Addr) (n : Nat), vs = [.ref d] ∧ n < 900000 ∧ PenOk H d c n ∧ ∀ l H' (a b : Option Int), H l = none → Keep [d] H H' → PenOk H' d c (n + 10) → H' l = some (.lst [mV a, mV b]) → minB a → minB b → Q (.ref l) H'
theorem rd_minutes (K : PySem.W.Frag) : ∀ vs H Q E, spMinutes vs H Q E → run (t__law_minutes K spDraw) (L2.start N__law_minutes vs) H Q := by
  rintro _ H Q _ ⟨d, c, n, rfl, hn, p, q⟩
  show run (t__law_minutes K spDraw) [some (.ref d), none, none, none] H Q
  unfold t__law_minutes
  walk_at "sx"
  refine g_CR1 (S := [d]) p.there (by decide) (by decide) ⟨fun j H' acc => ∃ is : List Int, acc = is.map V.int ∧ is.length = j ∧ (∀ i ∈ is, 1 ≤ i ∧ i ≤ 60) ∧ PenOk H' d c (n + 3 * j), ?_, ?_, ?_⟩
  · intro D H2 nD k2
    exact ⟨[], rfl, rfl, fun _ h => (List.not_mem_nil h).elim, p.keep k2⟩
  · rintro D j H2 acc R R0 nD hj k2 eD ⟨is, rfl, l2, o2, p2⟩ hR _
    have hj : j < 2 := hj
    obtain ⟨n1, n2⟩ := p.new nD
    walk_at "sx"
    refine ⟨d, c, 7, _, rfl, by decide, by decide, by omega, p2, fun v1 H3 k3 p3 a1 b1 => ?_⟩
    walk_at "sx"
    refine ⟨d, c, 60, _, rfl, by decide, by decide, by omega, p3, fun v2 H4 k4 p4 a2 b2 => ?_⟩
    walk_at "sx"
    refine ⟨by walk_at "sz", fun l5 H5 n5 k5 e5 => ?_⟩
    refine ⟨d, c, 2, _, rfl, by decide, by decide, by omega, p4.keep k5, fun v3 H6 k6 p6 a3 b3 => ?_⟩
    have e6 := k6 _ _ (nin1 (p4.new n5).1.symm) e5
    obtain ⟨w, hw, w1, w2⟩ : ∃ w : Int, atI [V.int (1 + v1), V.int (1 + v2)] v3 = some (.int w) ∧ 1 ≤ w ∧ w ≤ 60 := by
      have : v3 = 0 ∨ v3 = 1 := by omega
      rcases this with rfl | rfl
      · exact ⟨_, rfl, by omega, by omega⟩
      · exact ⟨_, rfl, by omega, by omega⟩
    refine g_ixL e6 hw (hR _ _ (k3.trans (k4.trans (k5.all.trans k6))) (by rw [List.length_map]; exact len_lt (by omega)) fun H7 k7 => ⟨is ++ [w], by rw [List.map_append]; rfl, by rw [List.length_append, l2]; rfl, fun i hi => ?_, (p6.keepL k7 n1 n2).mono (by omega)⟩)
    rcases List.mem_append.mp hi with hi | hi
    · exact o2 i hi
    · rw [List.mem_singleton.mp hi]; exact ⟨w1, w2⟩
  · rintro D H2 acc nD k2 eD ⟨is, rfl, l2, o2, p2⟩
    have l2 : is.length = 2 := l2
    obtain ⟨n1, n2⟩ := p.new nD
    walk_at "sx"
    refine ⟨d, c, 6, _, rfl, by decide, by decide, by show n + 3 * 2 < _; omega, p2, fun lot H3 k3 p3 a1 b1 => ?_⟩
    walk_at "sx"
    have e3 := k3 _ _ (nin1 n1.symm) eD
    have p3 : PenOk H3 d c (n + 3 * 2 + 1) := p3
    obtain ⟨x, y, rfl⟩ : ∃ x y, is = [x, y] := by
      match is, l2 with
      | [x, y], _ => exact ⟨x, y, rfl⟩
    have hx := o2 x (by simp)
    have hy := o2 y (by simp)
    have bx : minB (some x) := fun i e => by cases e; exact hx
    have by' : minB (some y) := fun i e => by cases e; exact hy
    have bn : minB none := fun i e => by cases e
    split
    · have : lot = 0 ∨ lot = 1 := by omega
      rcases this with rfl | rfl
      · refine g_setL (k := 0) e3 rfl fun H4 k4 e4 => ?_
        unfold t__law_minutes_r1
        walk_at "sx"
        exact q D H4 none (some y) nD ((k2.trans k3).past k4 nD) ((p3.keepL k4 n1 n2).mono (by omega)) e4 bn by'
      · refine g_setL (k := 1) e3 rfl fun H4 k4 e4 => ?_
        unfold t__law_minutes_r1
        walk_at "sx"
        exact q D H4 (some x) none nD ((k2.trans k3).past k4 nD) ((p3.keepL k4 n1 n2).mono (by omega)) e4 bx bn
    · unfold t__law_minutes_r1
      walk_at "sx"
      exact q D H3 (some x) (some y) nD (k2.trans k3) (p3.mono (by omega)) e3 bx by'
def spSome : Sp := fun vs H Q _ => ∃ (d c ls : Addr) (n m : Nat) (ys : List Str), vs = [.ref d, .ref ls, .int (m : Nat)] ∧ n < 900000 ∧ PenOk H d c n ∧ H ls = some (.lst (ys.map V.str)) ∧ m ≤ ys.length ∧ ys.length ≤ 10 ∧
  ∀ l H' (zs : List Str), H l = none → Keep [d] H H' → PenOk H' d c (n + m) → H' l = some (.lst (zs.map V.str)) → zs.length = m → (∀ z ∈ zs, z ∈ ys) → Q (.ref l) H'
theorem rd_some (K : PySem.W.Frag) : ∀ vs H Q E, spSome vs H Q E → run (t__law_some K spDraw) (L2.start N__law_some vs) H Q := by
  rintro _ H Q _ ⟨d, c, ls, n, m, ys, rfl, hn, p, hls, hm, h10, q⟩
  show run (t__law_some K spDraw) [some (.ref d), some (.ref ls), some (.int (m : Nat)), none, none, none] H Q
  unfold t__law_some
  walk_at "sx"
  refine g_listL hls fun lf H1 n1 k1 e1 => ⟨by walk_at "sz", fun fd H2 n2 k2 e2 => ?_⟩
  walk_at "sx"
  have hne : lf ≠ fd := ne_of_none e1 n2
  obtain ⟨a1, a2⟩ := p.new n1
  obtain ⟨b1, b2⟩ := (p.keep k1).new n2
  refine g_FR1 (by omega) (by omega) ⟨fun i σ H' => ∃ (us zs : List Str) (y : Option V), σ = [some (.ref d), some (.ref ls), some (.int (m : Nat)), some (.ref lf), some (.ref fd), y] ∧ Keep [d, lf, fd] H2 H' ∧ PenOk H' d c (n + i) ∧ H' lf = some (.lst (us.map V.str)) ∧ us.length + i = ys.length ∧ (∀ u ∈ us, u ∈ ys) ∧ H' fd = some (.lst (zs.map V.str)) ∧ zs.length = i ∧ ∀ z ∈ zs, z ∈ ys,
    ⟨ys, [], _, rfl, Keep.refl _ _, (p.keep (k1.trans k2)).mono (by omega), k2 _ _ nin0 e1, by omega, fun _ h => h, e2, rfl, fun _ h => (List.not_mem_nil h).elim⟩, ?_, ?_⟩
  · rintro i σ H3 hi ⟨us, zs, y, rfl, k3, p3, f3, l3, o3, g3, m3, q3⟩
    have hi' : i < m := by omega
    unfold t__law_some_b1
    walk_at "sx"
    refine ⟨.inl ⟨rfl, _, .inl (.inl g3)⟩, .inl ⟨rfl, _, .inl (.inl f3)⟩, g_lenL f3 ⟨d, c, _, _, rfl, by rw [List.length_map]; omega, by rw [List.length_map]; omega, by omega, p3, fun v H4 k4 p4 v0 v1 => ?_⟩⟩
    rw [List.length_map] at v1
    have f4 := k4 _ _ (nin1 a1.symm) f3
    have g4 := k4 _ _ (nin1 b1.symm) g3
    have hv : v.toNat < us.length := by omega
    refine g_popAt f4 (Int.toNat_of_nonneg v0).symm (by rw [List.length_map]; exact hv) (by rw [List.length_map]; omega) (y := .str us[v.toNat]) (by rw [List.getElem?_map, List.getElem?_eq_getElem hv]; rfl) fun H5 k5 e5 => ?_
    have g5 := k5 _ _ (nin1 hne.symm) g4
    refine g_append g5 (by rw [List.length_map]; exact len_lt (by omega)) fun H6 k6 e6 => ?_
    refine ⟨us.eraseIdx v.toNat, zs ++ [us[v.toNat]], _, rfl, k3.trans ((k4.wide (by simp)).trans ((k5.wide (by simp)).trans (k6.wide (by simp)))), ((p4.keepL k5 a1 a2).keepL k6 b1 b2), ?_, ?_, fun u hu => o3 u (List.mem_of_mem_eraseIdx hu), by rw [List.map_append]; exact e6, by rw [List.length_append, m3]; rfl, fun z hz => ?_⟩
    · rw [k6 _ _ (nin1 hne) e5]
      rw [List.eraseIdx_eq_take_drop_succ, List.eraseIdx_eq_take_drop_succ, List.map_append, List.map_take, List.map_drop]
    · rw [List.length_eraseIdx_of_lt hv]
      omega
    · rcases List.mem_append.mp hz with hz | hz
      · exact q3 z hz
      · rw [List.mem_singleton.mp hz]
        exact o3 _ (List.getElem_mem hv)
  · rintro σ H3 ⟨us, zs, y, rfl, k3, p3, f3, l3, o3, g3, m3, q3⟩
    unfold t__law_some_r1
    walk_at "sx"
    have nf := k1.free nin0 n2
    refine q fd H3 zs nf (fun b o hb e => ?_) p3 g3 m3 q3
    have hb' : b ≠ d := fun z => hb (List.mem_singleton.mpr z)
    refine k3 b o ?_ ((k1.trans k2) b o nin0 e)
    simp only [List.mem_cons, List.not_mem_nil, or_false, not_or]
    exact ⟨hb', ne_of_none e n1, ne_of_none e nf⟩

theorem g_tup {K : PySem.W.Frag} {p : Addr} {xs : List V} {n : Nat} {t : TGs} {σ : L2.St} {H : Hp} {Q : L2.St → Hp → Prop} (h : Tup H p xs) (l : xs.length = n) (q : t xs σ H Q) : gTup K n t (.ref p) σ H Q := ⟨p, xs, rfl, h.sq, l, q⟩
/-- a text of few small signs -/
def NmS (k : Nat) (y : Str) : Prop := y.length ≤ k ∧ ∀ ch ∈ cl y, ch < 200
theorem NmS.mono {k k' : Nat} {y : Str} (h : NmS k y) (l : k ≤ k') : NmS k' y := ⟨Nat.le_trans h.1 l, h.2⟩
instance (k : Nat) (y : Str) : Decidable (NmS k y) := by unfold NmS; infer_instance
theorem splitA : ∃ ws : List Str, Txt.split "free to at bare by full cut off on call done grade open" " " = ws ∧ ws.length = 13 ∧ ∀ w ∈ ws, NmS 8 w := ⟨_, rfl, by decide +kernel, by decide +kernel⟩
theorem splitB : ∃ ws : List Str, Txt.split "shut told passed none twice many busy sent held moved there stands drives" " " = ws ∧ ws.length = 13 ∧ ∀ w ∈ ws, NmS 8 w := ⟨_, rfl, by decide +kernel, by decide +kernel⟩
theorem cutS_le (z : Str) (lo hi : Option Int) : (cutS z lo hi).length ≤ z.length := by
  rw [cl_len, cl_cut, cl_len z, List.length_take, List.length_drop]
  omega
theorem Keep.freeD {H H' : Hp} {d c l : Addr} {n : Nat} (k : Keep [d] H H') (e : H' l = none) (p : PenOk H d c n) (p' : PenOk H' d c m) : H l = none := by
  by_cases h : l = d
  · obtain ⟨_, _, _, q, _⟩ := p'
    rw [h, q.d] at e
    cases e
  · exact k.free (nin1 h) e
theorem PenOk.neL {H : Hp} {d c l : Addr} {n : Nat} {xs : List V} (p : PenOk H d c n) (h : H l = some (.lst xs)) : l ≠ d := fun z => by
  obtain ⟨_, _, _, q, _⟩ := p
  rw [z, q.d] at h
  cases h
theorem cutS_ch {z : Str} {lo hi : Option Int} (h : ∀ ch ∈ cl z, ch < 200) : ∀ ch ∈ cl (cutS z lo hi), ch < 200 := fun ch hc => by
  rw [cl_cut] at hc
  exact h ch (List.mem_of_mem_drop (List.mem_of_mem_take hc))
def OddV (v : Int) : Prop := v = 1 ∨ v = 3 ∨ v = 5 ∨ v = 7 ∨ v = 9 ∨ v = 11 ∨ v = 15 ∨ v = 17
theorem OddV.le {v : Int} (h : OddV v) : 0 ≤ v ∧ v ≤ 17 := by unfold OddV at h; omega
theorem OddV.apart {v bg : Int} {m a b : Nat} (h : OddV v) (hb : 0 ≤ bg) (m10 : m ≤ 10) (hab : a < b) (hbm : b < m) (e : ((bg + v * (a : Int)) % 26).toNat = ((bg + v * (b : Int)) % 26).toNat) : False := by
  have p1 := Int.emod_nonneg (bg + v * (a : Int)) (show (26 : Int) ≠ 0 by decide)
  have p2 := Int.emod_nonneg (bg + v * (b : Int)) (show (26 : Int) ≠ 0 by decide)
  have e2 : (bg + v * (a : Int)) % 26 = (bg + v * (b : Int)) % 26 := by omega
  rcases h with rfl | rfl | rfl | rfl | rfl | rfl | rfl | rfl <;> omega
theorem nodup_of {β : Type} {f : Nat → β} {g : Str → β} {m : Nat} : ∀ {ys : List Str}, EI (fun y (k : Nat) => g y = f k) ys (List.range m) → (∀ a b, a < b → b < m → f a ≠ f b) → ys.Nodup := fun {ys} h inj => by
  rw [List.Nodup, List.pairwise_iff_getElem]
  intro i j hi hj hij e
  have hl := h.length
  rw [List.length_range] at hl
  obtain ⟨y1, x1, r1⟩ := ei_get h (r := i) (i := i) (by rw [List.getElem?_range (by omega)])
  obtain ⟨y2, x2, r2⟩ := ei_get h (r := j) (i := j) (by rw [List.getElem?_range (by omega)])
  rw [List.getElem?_eq_getElem hi] at x1
  rw [List.getElem?_eq_getElem hj] at x2
  cases x1
  cases x2
  exact inj i j hij (by omega) (r1.symm.trans ((congrArg g e).trans r2))
theorem nodup_getD {ws : List Str} (nd : ws.Nodup) {a b : Nat} (ha : a < ws.length) (hb : b < ws.length) (e : ws.getD a "" = ws.getD b "") : a = b := by
  rw [List.getD_eq_getElem?_getD, List.getD_eq_getElem?_getD, List.getElem?_eq_getElem ha, List.getElem?_eq_getElem hb] at e
  exact (List.getElem_inj nd).mp e
theorem sgn_one {a b : Nat} (e : sgn a = sgn b) (ha : a < 36 := by omega) (hb : b < 36 := by omega) : a = b := by
  unfold sgn at e
  split at e <;> split at e <;> omega
theorem splitN : (Txt.split "free to at bare by full cut off on call done grade open" " " ++ Txt.split "shut told passed none twice many busy sent held moved there stands drives" " ").Nodup := by decide +kernel
theorem splitZ : (Txt.split "free to at bare by full cut off on call done grade open" " " ++ Txt.split "shut told passed none twice many busy sent held moved there stands drives" " ").all (fun w => decide (1 ≤ w.length)) = true := by decide +kernel
theorem ne_words {ws ys : List Str} {f : Nat → Nat} {m : Nat} (hz : ∀ w ∈ ws, 1 ≤ w.length) (hf : ∀ k, k < m → f k < ws.length) (h : EI (fun y (k : Nat) => y = ws.getD (f k) "") ys (List.range m)) : ∀ y ∈ ys, 1 ≤ y.length := fun y hy => by
  obtain ⟨i, hi, e⟩ := List.getElem_of_mem hy
  obtain ⟨k, hk, r⟩ := ei_got h (List.getElem?_eq_getElem hi)
  rw [e] at r
  have hkm := List.mem_range.mp (List.mem_of_getElem? hk)
  rw [r, List.getD_eq_getElem?_getD, List.getElem?_eq_getElem (hf k hkm)]
  exact hz _ (List.getElem_mem _)
theorem ne_signs {ys : List Str} {g : Nat → Nat} {j m : Nat} (h : EI (fun y (k : Nat) => (cl y)[j]? = some (g k)) ys (List.range m)) : ∀ y ∈ ys, 1 ≤ y.length := fun y hy => by
  obtain ⟨i, hi, e⟩ := List.getElem_of_mem hy
  obtain ⟨k, hk, r⟩ := ei_got h (List.getElem?_eq_getElem hi)
  rw [e] at r
  have := (List.getElem?_eq_some_iff.mp r).1
  rw [cl_len]
  omega
theorem sgn_okN {i : Int} (h1 : 0 ≤ i) (h2 : i < 36) : ∃ cc : Nat, atI (cl "abcdefghijklmnopqrstuvwxyz0123456789") i = some cc ∧ cc < 200 ∧ cc = sgn i.toNat := ⟨_, at_lit i.toNat (by omega) (sgn_at i.toNat (by omega)), by unfold sgn; split <;> omega, rfl⟩
def spNamesH : Sp := fun vs H Q _ => ∃ (d c : Addr) (n m : Nat), vs = [.ref d, .int (m : Nat)] ∧ n < 800000 ∧ PenOk H d c n ∧ m ≤ 10 ∧
  ∀ l H' (ys : List Str), H l = none → Keep [d] H H' → PenOk H' d c (n + 30) → H' l = some (.lst (ys.map V.str)) → ys.length = m → (∀ y ∈ ys, NmS 30 y) → ys.Nodup → (∀ y ∈ ys, 1 ≤ y.length) → Q (.ref l) H'
theorem e36h {P : Prop} [Decidable P] : ∃ w : Int, (atI [V.int 36, V.int 26] (if P then 1 else 0) = some (.int w)) ∧ (w = 26 ∨ w = 36) := by
  by_cases h : P
  · rw [if_pos h]
    exact ⟨26, rfl, .inl rfl⟩
  · rw [if_neg h]
    exact ⟨36, rfl, .inr rfl⟩
theorem sgn_ok {i : Int} (h1 : 0 ≤ i) (h2 : i < 36) : ∃ cc : Nat, atI (cl "abcdefghijklmnopqrstuvwxyz0123456789") i = some cc ∧ cc < 200 := ⟨_, at_lit i.toNat (by omega) (sgn_at i.toNat (by omega)), by unfold sgn; split <;> omega⟩
theorem rd_namesH (K : PySem.W.Frag) : ∀ vs H Q E, spNamesH vs H Q E → run (t__law_names K spDraw) (L2.start N__law_names vs) H Q := by
  rintro _ H Q _ ⟨d, c, n, m, rfl, hn, p, m10, q⟩
  show run (t__law_names K spDraw) [some (.ref d), some (.int (m : Nat)), none, none, none, none, none, none, none, none, none, none, none] H Q
  unfold t__law_names
  walk_at "sx"
  refine ⟨d, c, 8, n, rfl, by decide, by decide, by omega, p, fun sz H1 k1 p1 s0 s1 => ?_⟩
  walk_at "sx"
  obtain ⟨size, rfl⟩ : ∃ k : Nat, sz = (k : Int) := ⟨sz.toNat, by omega⟩
  refine ⟨⟨_, rfl⟩, g_CR1 (S := [d]) p1.there (by omega) (by omega) ⟨fun i H' acc => ∃ cs : List Nat, acc = cs.map (fun c => V.str ⟨#[c]⟩) ∧ cs.length = i ∧ (∀ ch ∈ cs, ch < 200) ∧ PenOk H' d c (n + 1 + i), ?_, ?_, ?_⟩⟩
  · intro D H2 _ k2
    exact ⟨[], rfl, rfl, fun _ h => (List.not_mem_nil h).elim, p1.keep k2⟩
  · rintro D i H2 acc R R0 nD hi k2 eD ⟨cs, rfl, hcl, hcs, p2⟩ hR _
    have hi' : i < 8 := by omega
    obtain ⟨n1, n2⟩ := p1.new nD
    walk_at "sx"
    refine ⟨by walk_at "sz", fun l3 H3 n3 k3 e3 => g_eq rfl ?_⟩
    walk_at "sx"
    obtain ⟨w, hw, ew⟩ := e36h (P := (i : Int) = 0)
    refine g_ixL e3 hw ?_
    walk_at "sx"
    refine ⟨d, c, w, _, rfl, by omega, by omega, by omega, p2.keep k3, fun v H4 k4 p4 v0 v1 => ?_⟩
    obtain ⟨cc, hcc, hc2⟩ := sgn_ok v0 (by omega)
    refine g_ixS (by decide) hcc (hR _ _ (k3.all.trans k4) (by rw [List.length_map]; exact len_lt (by omega)) fun H5 k5 => ⟨cs ++ [cc], by rw [List.map_append]; rfl, by simp [hcl], fun ch hch => (List.mem_append.mp hch).elim (hcs ch) fun h => by rw [List.mem_singleton.mp h]; exact hc2, (p4.keepL k5 n1 n2).mono (by omega)⟩)
  · rintro D H2 acc nD k2 eD ⟨cs, rfl, hcl, hcs, p2⟩
    rw [Int.toNat_natCast] at hcl p2
    refine ⟨"", D, cs.map (fun c => ⟨#[c]⟩), rfl, rfl, .inl (lst_sq (by rw [eD, List.map_map]; rfl)), ?_, ?_⟩
    · have e : ((cs.map fun c => (⟨#[c]⟩ : Str)).map (·.length)).sum = cs.length := by
        clear hcl eD hcs
        induction cs with
        | nil => rfl
        | cons a r ih => 
          simp only [List.map_cons, List.sum_cons, List.length_cons, ih]
          show 1 + r.length = r.length + 1
          omega
      rw [e]
      show cs.length + (cs.map fun c => (⟨#[c]⟩ : Str)).length * 0 ≤ 16777216
      omega
    have hbl : (Txt.join "" (cs.map fun c => (⟨#[c]⟩ : Str))).length ≤ 8 := by
      rw [cl_len, cl_join0, List.map_map]
      have : (cl ∘ fun c => (⟨#[c]⟩ : Str)) = fun c => [c] := rfl
      rw [this]
      have f1 : ∀ xs : List Nat, (xs.map fun c => [c]).flatten = xs := fun xs => by
        induction xs with
        | nil => rfl
        | cons a r ih => rw [List.map_cons, List.flatten_cons, ih]; rfl
      rw [f1]
      omega
    have hbc : ∀ ch ∈ cl (Txt.join "" (cs.map fun c => (⟨#[c]⟩ : Str))), ch < 200 := by
      rw [cl_join0, List.map_map]
      have : (cl ∘ fun c => (⟨#[c]⟩ : Str)) = fun c => [c] := rfl
      rw [this]
      intro ch hch
      obtain ⟨l, hl, h2⟩ := List.mem_flatten.mp hch
      obtain ⟨c', hc', rfl⟩ := List.mem_map.mp hl
      rw [List.mem_singleton.mp h2]
      exact hcs c' hc'
    generalize Txt.join "" (cs.map fun c => (⟨#[c]⟩ : Str)) = base at hbl hbc
    have hbL : base.length ≤ sizeLine := len_le (by omega)
    walk_at "sx"
    refine ⟨d, c, _, _, rfl, by omega, by omega, by omega, p2, fun at' H3 k3 p3 a0 a1 => ?_⟩
    walk_at "sx"
    refine ⟨d, c, _, _, rfl, by decide, by decide, by omega, p3, fun bg H4 k4 p4 b0 b1 => ⟨by walk_at "sz", fun l5 H5 n5 k5 e5 => ⟨d, c, _, _, rfl, by decide, by decide, by omega, p4.keep k5, fun si H6 k6 p6 s0' s1' => ?_⟩⟩⟩
    have e6 := k6 _ _ (nin1 (p4.new n5).1.symm) e5
    obtain ⟨v, hv, mv⟩ : ∃ v, atI [V.int 1, V.int 3, V.int 5, V.int 7, V.int 9, V.int 11, V.int 15, V.int 17] si = some (.int v) ∧ OddV v := by
      have : si = 0 ∨ si = 1 ∨ si = 2 ∨ si = 3 ∨ si = 4 ∨ si = 5 ∨ si = 6 ∨ si = 7 := by omega
      rcases this with rfl | rfl | rfl | rfl | rfl | rfl | rfl | rfl <;> exact ⟨_, rfl, by unfold OddV; decide⟩
    have mv2 := mv.le
    refine g_ixL e6 hv ⟨d, c, _, _, rfl, by decide, by decide, by omega, p6, fun lot H7 k7 p7 l0 l1 => ⟨by walk_at "sz", fun tp H8 n8 k8 t8 => g_tup t8 rfl ?_⟩⟩
    walk_at "sx"
    refine ⟨_, _, rfl, _, _, rfl, _, _, rfl, rfl, ?_⟩
    obtain ⟨wa, ea, la, oa⟩ := splitA
    obtain ⟨wb, eb, lb, ob⟩ := splitB
    refine ⟨⟨_, rfl⟩, _, _, rfl, rfl, by decide, by decide +kernel, fun w1 H9 n9 k9 f9 => ⟨⟨_, rfl⟩, _, _, rfl, rfl, by decide, by decide +kernel, fun w2 HA nA kA fA => ?_⟩⟩
    rw [ea] at f9
    rw [eb] at fA
    refine g_addL (kA _ _ nin0 f9) fA (by rw [List.length_map, List.length_map]; exact len_le (by omega)) fun w3 HB nB kB fB => ?_
    rw [← List.map_append] at fB
    have nw : (wa ++ wb).Nodup := by rw [← ea, ← eb]; exact splitN
    have hwl : (wa ++ wb).length = 26 := by rw [List.length_append, la, lb]
    have hwz : ∀ w ∈ wa ++ wb, 1 ≤ w.length := by rw [← ea, ← eb]; exact fun w h => of_decide_eq_true (List.all_eq_true.mp splitZ w h)
    have hwo : ∀ w ∈ wa ++ wb, NmS 8 w := fun w hw => (List.mem_append.mp hw).elim (oa w) (ob w)
    generalize wa ++ wb = ws at fB hwl hwo nw hwz
    have k8B := k8.trans (k9.trans (kA.trans kB))
    have pB := p7.keep k8B
    have kH : Keep [d] H HB := k1.trans ((k2.trans (k3.trans (k4.trans (k5.all.trans (k6.trans (k7.trans k8B.all)))))))
    refine ⟨d, c, _, _, rfl, by decide, by decide, by omega, pB, fun x HC kC pC x0 x1 => g_eq rfl ?_⟩
    walk_at "sx"
    have kHC := kH.trans kC
    split
    · have fC' : HC w3 = some (.lst (ws.map V.str)) := kC _ _ (nin1 (pB.neL fB)) fB
      refine g_CR1 (S := []) (fun _ h => (List.not_mem_nil h).elim) (by omega) (by omega) ⟨fun i H' acc => ∃ ys : List Str, acc = ys.map V.str ∧ ys.length = i ∧ (∀ y ∈ ys, NmS 30 y) ∧ EI (fun y (k : Nat) => y = ws.getD ((bg + v * (k : Int)) % 26).toNat "") ys (List.range i), fun _ _ _ _ => ⟨[], rfl, rfl, fun _ h => (List.not_mem_nil h).elim, .nil⟩, ?_, ?_⟩
      · rintro D' i HD acc R R0 nD' hi kD eD' ⟨ys, rfl, ly, oy, ey⟩ hR _
        walk_at "sx"
        refine ⟨cmul_small (by omega), by decide, ?_⟩
        have q1 := Int.emod_nonneg (bg + v * (i : Int)) (show (26 : Int) ≠ 0 by decide)
        have q2 := Int.emod_lt_of_pos (bg + v * (i : Int)) (show (0 : Int) < 26 by decide)
        have hsnoc : ∀ z, z = ws.getD ((bg + v * (i : Int)) % 26).toNat "" → EI (fun y (k : Nat) => y = ws.getD ((bg + v * (k : Int)) % 26).toNat "") (ys ++ [z]) (List.range (i + 1)) := fun z hz => by rw [List.range_succ]; exact ei_snoc (R := fun y (k : Nat) => y = ws.getD ((bg + v * (k : Int)) % 26).toNat "") hz ey
        generalize (bg + v * (i : Int)) % 26 = j at q1 q2 hsnoc
        have hj : j.toNat < ws.length := by omega
        refine g_ixL (kD _ _ nin0 fC') (at_lit (v := .str ws[j.toNat]) j.toNat (by omega) (by rw [List.getElem?_map, List.getElem?_eq_getElem hj]; rfl)) (hR _ _ (Keep.refl _ _) (by rw [List.length_map]; exact len_lt (by omega)) fun H5 k5 => ⟨ys ++ [ws[j.toNat]], by rw [List.map_append]; rfl, by rw [List.length_append, ly]; rfl, fun y hy => ?_, hsnoc _ (by rw [List.getD_eq_getElem?_getD, List.getElem?_eq_getElem hj]; rfl)⟩)
        rcases List.mem_append.mp hy with hy | hy
        · exact oy y hy
        · rw [List.mem_singleton.mp hy]
          exact (hwo _ (List.getElem_mem hj)).mono (by decide)
      · rintro D' HD acc nD' kD eD' ⟨ys, rfl, ly, oy, ey⟩
        rw [Int.toNat_natCast] at ey
        exact q D' HD ys (kHC.freeD nD' p pC) (kHC.trans kD.all) ((pC.keep kD).mono (by omega)) eD' (by omega) oy (nodup_of (g := id) ey fun a b hab hb e => mv.apart b0 m10 hab hb ((nodup_getD nw (by rw [hwl]; have := Int.emod_lt_of_pos (bg + v * (a : Int)) (show (0 : Int) < 26 by decide); have := Int.emod_nonneg (bg + v * (a : Int)) (show (26 : Int) ≠ 0 by decide); omega) (by rw [hwl]; have := Int.emod_lt_of_pos (bg + v * (b : Int)) (show (0 : Int) < 26 by decide); have := Int.emod_nonneg (bg + v * (b : Int)) (show (26 : Int) ≠ 0 by decide); omega) e))) (ne_words (f := fun k => ((bg + v * (k : Int)) % 26).toNat) hwz (fun k _ => by have := Int.emod_lt_of_pos (bg + v * (k : Int)) (show (0 : Int) < 26 by decide); have := Int.emod_nonneg (bg + v * (k : Int)) (show (26 : Int) ≠ 0 by decide); omega) ey)
    · unfold t__law_names_r2
      walk_at "sx"
      refine ⟨by walk_at "sz", fun fl HD nD' kD eD' => ?_⟩
      walk_at "sx"
      obtain ⟨u1, u2⟩ := pC.new nD'
      refine g_FR1 (by omega) (by omega) ⟨fun i σ H' => ∃ (y4 y12 : Option V) (ys : List Str), σ = [some (.ref d), some (.int (m : Nat)), some (.str (Str.ofString "abcdefghijklmnopqrstuvwxyz0123456789")), some (.int (size : Nat)), y4, some (.str base), some (.int at'), some (.int bg), some (.int v), some (.int lot), some (.ref w3), some (.ref fl), y12] ∧ Keep [fl] HD H' ∧ H' fl = some (.lst (ys.map V.str)) ∧ ys.length = i ∧ (∀ y ∈ ys, NmS 30 y) ∧ EI (fun y (k : Nat) => (cl y)[(cutS base none (some at')).length]? = some (sgn ((bg + v * (k : Int)) % 26).toNat)) ys (List.range i),
        ⟨_, _, [], rfl, Keep.refl _ _, eD', rfl, fun _ h => (List.not_mem_nil h).elim, .nil⟩, ?_, ?_⟩
      · rintro i σ HE hi ⟨y4, y12, ys, rfl, kE, fE, ly, oy, ey⟩
        unfold t__law_names_b1
        walk_at "sx"
        refine ⟨by omega, by walk_at "sz", fun l2 HF nF kF eF => ?_⟩
        obtain ⟨w, hw⟩ : ∃ w : Int, atI [V.int 8, V.int ((i : Int) % ((size : Int) - at' + 1))] lot = some (.int w) := by
          have : lot = 0 ∨ lot = 1 := by omega
          rcases this with rfl | rfl
          · exact ⟨_, rfl⟩
          · exact ⟨_, rfl⟩
        refine g_ixL eF hw ?_
        walk_at "sx"
        refine g_slS hbL ?_
        have lt := cutS_le base (some at') (some (at' + w))
        have lt2 := cutS_ch (lo := some at') (hi := some (at' + w)) hbc
        generalize cutS base (some at') (some (at' + w)) = tail at lt lt2
        walk_at "sx"
        have q1 := Int.emod_nonneg (bg + v * (i : Int)) (show (26 : Int) ≠ 0 by decide)
        have q2 := Int.emod_lt_of_pos (bg + v * (i : Int)) (show (0 : Int) < 26 by decide)
        obtain ⟨cc, hcc, hc2, hc3⟩ := sgn_okN q1 (show (bg + v * (i : Int)) % 26 < 36 by omega)
        have fF := kF _ _ nin0 fE
        have lh := cutS_le base none (some at')
        have lh2 := cutS_ch (lo := none) (hi := some at') hbc
        refine ⟨.inl ⟨rfl, _, .inl (.inl fF)⟩, g_slS hbL ?_⟩
        generalize cutS base none (some at') = head at lh lh2 ey ⊢
        refine ⟨cmul_small (by omega), by decide, g_ixS (by decide) hcc ?_⟩
        have one : (⟨#[cc]⟩ : Str).length = 1 := rfl
        have two : (head ++ (⟨#[cc]⟩ : Str)).length = head.length + 1 := by rw [cl_len, cl_app, List.length_append, ← cl_len]; rfl
        have thr : (head ++ (⟨#[cc]⟩ : Str) ++ tail).length = head.length + 1 + tail.length := by rw [cl_len, cl_app, List.length_append, ← cl_len, ← cl_len, two]
        walk_at "sx"
        refine ⟨by rw [one]; exact len_le (by omega), by rw [two]; exact len_le (by omega), g_append fF (by rw [List.length_map]; exact len_lt (by omega)) fun HG kG eG => ⟨_, _, ys ++ [head ++ (⟨#[cc]⟩ : Str) ++ tail], rfl, kE.trans (kF.all.trans kG), by rw [List.map_append]; exact eG, by rw [List.length_append, ly]; rfl, fun y hy => ?_, by
          rw [List.range_succ]
          refine ei_snoc (R := fun y (k : Nat) => (cl y)[head.length]? = some (sgn ((bg + v * (k : Int)) % 26).toNat)) ?_ ey
          rw [cl_app, cl_app, List.append_assoc, List.getElem?_append_right (by rw [← cl_len]; exact Nat.le_refl _), ← cl_len, Nat.sub_self, ← hc3]
          rfl⟩⟩
        rcases List.mem_append.mp hy with hy | hy
        · exact oy y hy
        · rw [List.mem_singleton.mp hy]
          refine ⟨by rw [thr]; omega, fun ch hch => ?_⟩
          rw [cl_app, cl_app] at hch
          rcases List.mem_append.mp hch with h | h
          · rcases List.mem_append.mp h with h | h
            · exact lh2 ch h
            · have : ch ∈ [cc] := h
              rw [List.mem_singleton.mp this]
              exact hc2
          · exact lt2 ch h
      · rintro σ HE ⟨y4, y12, ys, rfl, kE, fE, ly, oy, ey⟩
        rw [Int.toNat_natCast] at ey
        unfold t__law_names_r1
        walk_at "sx"
        have nfl := kHC.freeD nD' p pC
        exact q fl HE ys nfl ((kHC.trans kD.all).past kE nfl) (((pC.keep kD).keepL kE u1 u2).mono (by omega)) fE (by omega) oy (nodup_of (g := fun y => (cl y)[(cutS base none (some at')).length]?) ey fun a b hab hb e => mv.apart b0 m10 hab hb (sgn_one (Option.some.inj e))) (ne_signs ey)
structure TwOk (T : Tn) : Prop where
  p1 : 1 ≤ T.places.length
  p10 : T.places.length ≤ 10
  nm : ∀ y ∈ T.places, NmS 30 y
  r18 : T.roads.length ≤ 18
  rd : ∀ r ∈ T.roads, r.one ∈ T.places ∧ r.two ∈ T.places ∧ minB r.there ∧ minB r.back
  s5 : T.stands.length ≤ 5
  sp : ∀ y ∈ T.stands, y ∈ T.places
  re0 : 0 ≤ T.reach
  re1 : T.reach ≤ 121
  s1 : 1 ≤ T.stands.length
def spTownH : Sp := fun vs H Q _ => ∃ (d c : Addr) (n : Nat), vs = [.ref d] ∧ n < 700000 ∧ PenOk H d c n ∧ ∀ p H' T, Keep [d] H H' → PenOk H' d c (n + 1000) → TnAt H' p T → TwOk T → Q (.ref p) H'
theorem g_unl {K : PySem.W.Frag} {p : Addr} {xs : List V} {n : Nat} {t : TGs} {σ : L2.St} {H : Hp} {Q : L2.St → Hp → Prop} (h : H p = some (.lst xs)) (l : xs.length = n) (q : t xs σ H Q) : gUnl K n t (.ref p) σ H Q := ⟨p, xs, rfl, lst_sq h, l, q⟩
theorem at3 {x : Int} {a b c : V} (h0 : 0 ≤ x) (h1 : x < 3) : ∃ v, atI [a, b, c] x = some v ∧ (v = a ∨ v = b ∨ v = c) := by
  have : x = 0 ∨ x = 1 ∨ x = 2 := by omega
  rcases this with rfl | rfl | rfl
  · exact ⟨_, rfl, .inl rfl⟩
  · exact ⟨_, rfl, .inr (.inl rfl)⟩
  · exact ⟨_, rfl, .inr (.inr rfl)⟩
theorem rd_townH (K : PySem.W.Frag) : ∀ vs H Q E, spTownH vs H Q E → run (t__law_town K spDraw spNamesH spMinutes spSome) (L2.start N__law_town vs) H Q := by
  rintro _ H Q _ ⟨d, c, n, rfl, hn, p, q⟩
  show run (t__law_town K spDraw spNamesH spMinutes spSome) [some (.ref d), none, none, none, none, none, none, none, none, none, none, none] H Q
  unfold t__law_town
  walk_at "sx"
  refine ⟨d, c, 10, n, rfl, by decide, by decide, by omega, p, fun v H1 k1 p1 v0 v1 => ?_⟩
  walk_at "sx"
  obtain ⟨m, hm⟩ : ∃ m : Nat, 1 + v = (m : Int) := ⟨(1 + v).toNat, by omega⟩
  rw [hm]
  have m1 : 1 ≤ m := by omega
  have m10 : m ≤ 10 := by omega
  refine ⟨d, c, _, m, rfl, by omega, p1, m10, fun pl H2 ys np k2 p2 e2 ly oy _ _ => ?_⟩
  walk_at "sx"
  refine ⟨by walk_at "sz", fun rl H3 n3 k3 e3 => ?_⟩
  walk_at "sx"
  have p3 := p2.keep k3
  refine ⟨d, c, 3, _, rfl, by decide, by decide, by omega, p3, fun lot H4 k4 p4 l0 l1 => ?_⟩
  walk_at "sx"
  refine ⟨d, c, 19, _, rfl, by decide, by decide, by omega, p4, fun many H5 k5 p5 b0 b1 => ⟨by walk_at "sz", fun l6 H6 n6 k6 e6 => ?_⟩⟩
  walk_at "sx"
  obtain ⟨w, hw, w0, w1⟩ : ∃ w : Int, atI [V.int 0, V.int many] (if 1 < (m : Int) then 1 else 0) = some (.int w) ∧ 0 ≤ w ∧ w ≤ 18 := by
    split
    · exact ⟨_, rfl, by omega, by omega⟩
    · exact ⟨_, rfl, by omega, by omega⟩
  refine g_ixL e6 hw ?_
  have p6 := p5.keep k6
  have nrd : rl ≠ d := p3.neL e3
  have npd : pl ≠ d := p2.neL e2
  have npr : pl ≠ rl := ne_of_none e2 n3
  have e2' : H6 pl = some (.lst (ys.map V.str)) := k6 _ _ nin0 (k5 _ _ (nin1 npd) (k4 _ _ (nin1 npd) (k3 _ _ nin0 e2)))
  have e3' : H6 rl = some (.lst []) := k6 _ _ nin0 (k5 _ _ (nin1 nrd) (k4 _ _ (nin1 nrd) e3))
  have kH : Keep [d] H H6 := k1.trans (k2.trans (k3.all.trans (k4.trans (k5.trans k6.all))))
  have nrl : H rl = none := (k1.trans k2).freeD n3 p p2
  have crl : c ≠ rl := (p2.new n3).2
  refine g_FR1 (by omega) (by omega) ⟨fun i σ H' => ∃ (y5 y6 y7 y8 y9 : Option V) (vs : List V) (rs : List Rd), σ = [some (.ref d), some (.int (m : Nat)), some (.ref pl), some (.ref rl), some (.int lot), y5, y6, y7, y8, y9, none, none] ∧ Keep [d, rl] H6 H' ∧ PenOk H' d c (n + 40 + 20 * i) ∧ H' rl = some (.lst vs) ∧ RdsAt H' vs rs ∧ rs.length = i ∧ ∀ r ∈ rs, r.one ∈ ys ∧ r.two ∈ ys ∧ minB r.there ∧ minB r.back,
    ⟨_, _, _, _, _, [], [], rfl, Keep.refl _ _, p6.mono (by omega), e3', .nil, rfl, fun _ h => (List.not_mem_nil h).elim⟩, ?_, ?_⟩
  · rintro i σ H7 hi ⟨y5, y6, y7, y8, y9, vs, rs, rfl, k7, p7, f7, d7, l7, o7⟩
    have hi' : i < 18 := by omega
    have e7 : H7 pl = some (.lst (ys.map V.str)) := k7 _ _ (by simp [npd, npr]) e2'
    unfold t__law_town_b1
    walk_at "sx"
    refine ⟨by omega, d, c, _, _, rfl, by omega, by omega, by omega, p7, fun x H8 k8 p8 x0 x1 => ⟨by walk_at "sz", fun l9 H9 n9 k9 e9 => ?_⟩⟩
    have hmod : ∀ z : Int, 0 ≤ z % (m : Int) ∧ z % (m : Int) < m := fun z => ⟨Int.emod_nonneg z (by omega), Int.emod_lt_of_pos z (by omega)⟩
    obtain ⟨o, ho, o0, o1⟩ : ∃ o : Int, atI [V.int ((i : Int) % m), V.int 0, V.int x] lot = some (.int o) ∧ 0 ≤ o ∧ o < m := by
      obtain ⟨v, hv, hv'⟩ := at3 (a := V.int ((i : Int) % m)) (b := V.int 0) (c := V.int x) l0 l1
      rcases hv' with rfl | rfl | rfl
      · exact ⟨_, hv, (hmod _).1, (hmod _).2⟩
      · exact ⟨_, hv, by omega, by omega⟩
      · exact ⟨_, hv, x0, by omega⟩
    refine g_ixL e9 ho ?_
    walk_at "sx"
    have p9 := p8.keep k9
    have hmx : 1 ≤ (if (m : Int) - 1 > 1 then (m : Int) - 1 else 1) ∧ (if (m : Int) - 1 > 1 then (m : Int) - 1 else 1) ≤ 10 := by split <;> omega
    generalize (if (m : Int) - 1 > 1 then (m : Int) - 1 else 1) = mx at hmx
    refine ⟨by omega, d, c, _, _, rfl, by omega, by omega, by omega, p9, fun x2 HA kA pA z0 z1 => ?_⟩
    walk_at "sx"
    refine ⟨by walk_at "sz", fun lB HB nB kB eB => ?_⟩
    have q0 := Int.emod_nonneg (i : Int) (show mx ≠ 0 by omega)
    obtain ⟨v3, hv3, hv3'⟩ := at3 (a := V.int 1) (b := V.int (1 + (i : Int) % mx)) (c := V.int (1 + x2)) l0 l1
    obtain ⟨w2, rfl⟩ : ∃ w2 : Int, v3 = .int w2 := by
      rcases hv3' with rfl | rfl | rfl
      · exact ⟨_, rfl⟩
      · exact ⟨_, rfl⟩
      · exact ⟨_, rfl⟩
    refine g_ixL eB hv3 ?_
    walk_at "sx"
    obtain ⟨t0, t1⟩ := hmod (o + w2)
    generalize (o + w2) % (m : Int) = t at t0 t1
    have pB := pA.keep kB
    refine ⟨by omega, d, c, _, rfl, by omega, pB, fun lC HC ma mb nC kC pC eC ba bb => g_unl eC rfl ?_⟩
    walk_at "sx"
    refine ⟨_, _, rfl, _, _, rfl, rfl, ?_⟩
    have k7C : Keep [d] H7 HC := k8.trans (k9.all.trans (kA.trans (kB.all.trans kC)))
    have fC := k7C _ _ (nin1 nrd) f7
    have eplC := k7C _ _ (nin1 npd) e7
    have dC := d7.keep k7C p7.noTup
    have ho : o.toNat < ys.length := by omega
    have ht : t.toNat < ys.length := by omega
    walk_at "sx"
    refine ⟨.inl ⟨rfl, _, .inl (.inl fC)⟩, g_ixL eplC (at_lit (v := .str ys[o.toNat]) o.toNat (by omega) (by rw [List.getElem?_map, List.getElem?_eq_getElem ho]; rfl)) (g_ixL eplC (at_lit (v := .str ys[t.toNat]) t.toNat (by omega) (by rw [List.getElem?_map, List.getElem?_eq_getElem ht]; rfl)) ⟨by walk_at "sz", fun tp HD nD kD tD => ?_⟩)⟩
    have fD := kD _ _ nin0 fC
    refine g_append fD (by rw [d7.len]; exact len_lt (by omega)) fun HE kE fE => ?_
    have kk : Keep [d, rl] H7 HE := (k7C.wide (by simp)).trans (kD.all.trans (kE.wide (by simp)))
    refine ⟨_, _, _, _, _, _, rs ++ [⟨ys[o.toNat], ys[t.toNat], ma, mb⟩], rfl, k7.trans kk, ((pC.keep kD).keepL kE nrd.symm crl).mono (by omega), fE, ((dC.keep kD noTup0).keep kE (noTup1 fD)).snoc (r := ⟨ys[o.toNat], ys[t.toNat], ma, mb⟩) (tD.keep kE (noTup1 fD _ _ tD)), by rw [List.length_append, l7]; rfl, fun r hr => ?_⟩
    rcases List.mem_append.mp hr with hr | hr
    · exact o7 r hr
    · rw [List.mem_singleton.mp hr]
      exact ⟨List.getElem_mem ho, List.getElem_mem ht, ba, bb⟩
  · rintro σ H7 ⟨y5, y6, y7, y8, y9, vs, rs, rfl, k7, p7, f7, d7, l7, o7⟩
    have e7 : H7 pl = some (.lst (ys.map V.str)) := k7 _ _ (by simp [npd, npr]) e2'
    have l7' : rs.length ≤ 18 := by omega
    have p7 : PenOk H7 d c (n + 400) := p7.mono (by omega)
    unfold t__law_town_r1
    walk_at "sx"
    have hmn : 1 ≤ (if (m : Int) < 5 then (m : Int) else 5) ∧ (if (m : Int) < 5 then (m : Int) else 5) ≤ 5 ∧ (if (m : Int) < 5 then (m : Int) else 5) ≤ m := by split <;> omega
    generalize (if (m : Int) < 5 then (m : Int) else 5) = mn at hmn
    refine ⟨d, c, mn, _, rfl, by omega, by omega, by omega, p7, fun x H8 k8 p8 x0 x1 => ?_⟩
    walk_at "sx"
    have e8 := k8 _ _ (nin1 npd) e7
    refine ⟨d, c, pl, _, (1 + x).toNat, ys, by rw [Int.toNat_of_nonneg (by omega)], by omega, p8, e8, by omega, by omega, fun sl H9 zs ns k9 p9 e9 lz oz => ?_⟩
    walk_at "sx"
    refine ⟨d, c, 9, _, rfl, by decide, by decide, by omega, p9, fun r1 HA kA pA ra0 ra1 => ?_⟩
    refine ⟨d, c, 31, _, rfl, by decide, by decide, by omega, pA, fun r2 HB kB pB rb0 rb1 => ?_⟩
    refine ⟨d, c, 121, _, rfl, by decide, by decide, by omega, pB, fun r3 HC kC pC rc0 rc1 => ⟨by walk_at "sz", fun lD HD nD kD eD => ?_⟩⟩
    refine ⟨d, c, 2, _, rfl, by decide, by decide, by omega, pC.keep kD, fun r4 HE kE pE rd0 rd1 => ?_⟩
    have eDE := kE _ _ (nin1 ((pC.keep kD).neL eD)) eD
    obtain ⟨w4, hw4, w40⟩ : ∃ w4 : Int, atI [V.int 0, V.int 120] r4 = some (.int w4) ∧ 0 ≤ w4 ∧ w4 ≤ 120 := by
      have : r4 = 0 ∨ r4 = 1 := by omega
      rcases this with rfl | rfl
      · exact ⟨_, rfl, by decide, by decide⟩
      · exact ⟨_, rfl, by decide, by decide⟩
    refine g_ixL eDE hw4 ⟨by walk_at "sz", fun lF HF nF kF eF => ?_⟩
    walk_at "sx"
    have pF := pE.keep kF
    have k7F : Keep [d] H7 HF := k8.trans (k9.trans (kA.trans (kB.trans (kC.trans (kD.all.trans (kE.trans kF.all))))))
    have k9F : Keep [d] H9 HF := kA.trans (kB.trans (kC.trans (kD.all.trans (kE.trans kF.all))))
    have nsd : sl ≠ d := p9.neL e9
    refine g_tupleL (k7F _ _ (nin1 npd) e7) fun t1 HG nG kG tG => g_tupleL (kG _ _ nin0 (k7F _ _ (nin1 nrd) f7)) fun t2 HI nI kI tI => g_tupleL ((kG.trans kI) _ _ nin0 (k9F _ _ (nin1 nsd) e9)) fun t3 HJ nJ kJ tJ => ?_
    have kFJ := kG.trans (kI.trans kJ)
    have pJ := pF.keep kFJ
    refine ⟨d, c, 4, _, rfl, by decide, by decide, by omega, pJ, fun r5 HL kL pL re0 re1 => ?_⟩
    have eFL := kL _ _ (nin1 (pJ.neL (kFJ _ _ nin0 eF))) (kFJ _ _ nin0 eF)
    obtain ⟨w5, hw5, w50, w51⟩ : ∃ w5 : Int, atI [V.int r1, V.int r2, V.int r3, V.int w4] r5 = some (.int w5) ∧ 0 ≤ w5 ∧ w5 ≤ 121 := by
      have : r5 = 0 ∨ r5 = 1 ∨ r5 = 2 ∨ r5 = 3 := by omega
      rcases this with rfl | rfl | rfl | rfl
      · exact ⟨_, rfl, by omega, by omega⟩
      · exact ⟨_, rfl, by omega, by omega⟩
      · exact ⟨_, rfl, by omega, by omega⟩
      · exact ⟨_, rfl, by omega, by omega⟩
    refine g_ixL eFL hw5 ⟨by walk_at "sz", fun tp HM nM kM tM => ?_⟩
    have ntJ := pJ.noTup
    have tG' := (((tG.keep kI nin0).keep kJ nin0).keep kL (ntJ _ _ ((tG.keep kI nin0).keep kJ nin0))).keep kM nin0
    have tI' := ((tI.keep kJ nin0).keep kL (ntJ _ _ (tI.keep kJ nin0))).keep kM nin0
    have tJ' := (tJ.keep kL (ntJ _ _ tJ)).keep kM nin0
    have dM := (((d7.keep k7F p7.noTup).keep kFJ noTup0).keep kL ntJ).keep kM noTup0
    have kAll : Keep [d] H HM := by
      have k67 : Keep [d] H H7 := fun b o hb e => k7 b o (by
        have hb' : b ≠ d := fun z => hb (List.mem_singleton.mpr z)
        simp only [List.mem_cons, List.not_mem_nil, or_false, not_or]
        exact ⟨hb', ne_of_none e nrl⟩) (kH b o hb e)
      exact k67.trans (k7F.trans (kFJ.all.trans (kL.trans kM.all)))
    exact q tp HM ⟨ys, rs, zs, w5⟩ kAll ((pL.keep kM).mono (by omega)) ⟨t1, t2, t3, vs, tM, tG', tI', dM, tJ'⟩ ⟨by show 1 ≤ ys.length; omega, by show ys.length ≤ 10; omega, oy, l7', o7, by show zs.length ≤ 5; omega, oz, w50, w51, by show 1 ≤ zs.length; omega⟩

theorem ei_map {α β : Type} {R : β → α → Prop} (f : α → β) (h : ∀ x, R (f x) x) : ∀ xs : List α, EI R (xs.map f) xs
  | [] => .nil
  | x :: xs => .cons (h x) (ei_map f h xs)
theorem flt_next {α : Type} {p : α → Bool} {l : List α} {i : Nat} {x : α} (h : l[i]? = some x) : (l.take (i + 1)).filter p = (l.take i).filter p ++ (if p x = true then [x] else []) := by
  rw [List.take_succ, h, List.filter_append]
  congr 1
  by_cases e : p x = true
  · simp [e]
  · simp [e]
theorem flt_len {α : Type} {p : α → Bool} {l : List α} {i : Nat} : ((l.take i).filter p).length ≤ l.length := Nat.le_trans (List.length_filter_le _ _) (by rw [List.length_take]; omega)
/-! ### rows, moves, choices -/
structure Rw where
  w : Str
  p : Str
  can : List Str
def RwAt (H : Hp) (x : V) (r : Rw) : Prop := ∃ p ct, x = .ref p ∧ Tup H p [.str r.w, .str r.p, .ref ct] ∧ Tup H ct (r.can.map V.str)
theorem RwAt.keep {S : List Addr} {H H' : Hp} {x : V} {r : Rw} (h : RwAt H x r) (k : Keep S H H') (n : NoTup S H) : RwAt H' x r := let ⟨p, ct, e, t, u⟩ := h; ⟨p, ct, e, t.keep k (n _ _ t), u.keep k (n _ _ u)⟩
theorem rws_keep {S : List Addr} {H H' : Hp} {vs : List V} {rs : List Rw} (h : EI (RwAt H) vs rs) (k : Keep S H H') (n : NoTup S H) : EI (RwAt H') vs rs := h.mono fun _ _ q => q.keep k n
def MvAt (H : Hp) (x : V) (m : Str × Str) : Prop := ∃ p, x = .ref p ∧ Tup H p [.str m.1, .str m.2]
theorem MvAt.keep {S : List Addr} {H H' : Hp} {x : V} {r : Str × Str} (h : MvAt H x r) (k : Keep S H H') (n : NoTup S H) : MvAt H' x r := let ⟨p, e, t⟩ := h; ⟨p, e, t.keep k (n _ _ t)⟩
theorem mvs_keep {S : List Addr} {H H' : Hp} {vs : List V} {rs : List (Str × Str)} (h : EI (MvAt H) vs rs) (k : Keep S H H') (n : NoTup S H) : EI (MvAt H') vs rs := h.mono fun _ _ q => q.keep k n
theorem str_ok {y : Str} (h : NmS 30 y) : PyData.strOk y = true := by
  unfold PyData.strOk
  rw [← Array.all_toList, List.all_eq_true]
  intro ch hc
  have := h.2 ch hc
  exact decide_eq_true (by omega)
theorem lay_strs : ∀ {ys : List Str}, (∀ y ∈ ys, NmS 30 y) → PyData.canLayAll0 (ys.map PyData.str) = true ∧ PyData.depthAll (ys.map PyData.str) ≤ 0
  | [], _ => ⟨rfl, by simp [PyData.depthAll]⟩
  | y :: ys, h => by
    obtain ⟨h1, h2⟩ := lay_strs fun z hz => h z (List.mem_cons_of_mem _ hz)
    refine ⟨by simp [PyData.canLayAll0, PyData.canLay0, h1, str_ok (h y List.mem_cons_self)], ?_⟩
    simp [PyData.depthAll, PyData.depth] at *
    omega
def mD : Option Int → PyData
  | none => .none
  | some i => .int i
section
variable {K : PySem.W.Frag} {H : Hp}
theorem dp_mV (o : Option Int) : Dp K H (mV o) (mD o) := by
  cases o with
  | none => exact .non
  | some i => exact .int i
theorem dp_map {α : Type} (f : α → V) (g : α → PyData) : ∀ (xs : List α), (∀ x ∈ xs, Dp K H (f x) (g x)) → DpAll K H (xs.map f) (xs.map g)
  | [], _ => .nil
  | x :: xs, h => .cons (h x List.mem_cons_self) (dp_map f g xs fun y hy => h y (List.mem_cons_of_mem _ hy))
theorem dp_pt : ∀ (vs : List V) (ds : List PyData), vs.length = ds.length → (∀ (i : Nat) (v : V) (d : PyData), vs[i]? = some v → ds[i]? = some d → Dp K H v d) → DpAll K H vs ds
  | [], [], _, _ => .nil
  | v :: vs, d :: ds, l, h => .cons (h 0 v d rfl rfl) (dp_pt vs ds (by simpa using l) fun i v' d' e1 e2 => h (i + 1) v' d' (by simpa using e1) (by simpa using e2))
  | [], _ :: _, l, _ => by simp at l
  | _ :: _, [], l, _ => by simp at l
def rdD (r : Rd) : PyData := .tuple [.str r.one, .str r.two, mD r.there, mD r.back]
theorem dp_rds : ∀ {vs : List V} {rs : List Rd}, RdsAt H vs rs → DpAll K H vs (rs.map rdD)
  | _, _, .nil => .nil
  | _, _, .cons h q => .cons (.tup (Tup.sq h) (.cons (.str _) (.cons (.str _) (.cons (dp_mV _) (.cons (dp_mV _) .nil))))) (dp_rds q)
def tnD (T : Tn) : PyData := .tuple [.tuple (T.places.map .str), .tuple (T.roads.map rdD), .tuple (T.stands.map .str), .int T.reach]
theorem dp_tn {t : Addr} {T : Tn} (h : TnAt H t T) : Dp K H (.ref t) (tnD T) := by
  obtain ⟨ap, ar, as, vs, h1, h2, h3, h4, h5⟩ := h
  exact .tup h1.sq (.cons (.tup h2.sq (dp_map _ _ _ fun x _ => .str x)) (.cons (.tup h3.sq (dp_rds h4)) (.cons (.tup h5.sq (dp_map _ _ _ fun x _ => .str x)) (.cons (.int _) .nil))))
end
theorem fines_map {α : Type} (g : α → PyData) : ∀ (xs : List α), (∀ x ∈ xs, fine (g x)) → fines (xs.map g)
  | [], _ => trivial
  | x :: xs, h => ⟨h x List.mem_cons_self, fines_map g xs fun y hy => h y (List.mem_cons_of_mem _ hy)⟩
theorem costs_map {α : Type} (g : α → PyData) (b : Nat) : ∀ (xs : List α), (∀ x ∈ xs, cost (g x) ≤ b) → costs (xs.map g) ≤ xs.length * (b + 2)
  | [], _ => by simp [costs]
  | x :: xs, h => by
    have h1 := h x List.mem_cons_self
    have h2 := costs_map g b xs fun y hy => h y (List.mem_cons_of_mem _ hy)
    simp only [List.map_cons, costs, List.length_cons, Nat.add_mul]
    omega
theorem depth_map {α : Type} (g : α → PyData) (b : Nat) : ∀ (xs : List α), (∀ x ∈ xs, (g x).depth ≤ b) → PyData.depthAll (xs.map g) ≤ b
  | [], _ => by simp [PyData.depthAll]
  | x :: xs, h => by
    have h1 := h x List.mem_cons_self
    have h2 := depth_map g b xs fun y hy => h y (List.mem_cons_of_mem _ hy)
    simp only [List.map_cons, PyData.depthAll]
    omega
/-- small data: fine, of few signs, of few levels -/
structure Sm (c k : Nat) (d : PyData) : Prop where
  f : fine d
  c : cost d ≤ c
  d : d.depth ≤ k
theorem sm_str {y : Str} (h : NmS 30 y) : Sm 302 0 (.str y) := ⟨fun ch hc => Nat.lt_of_lt_of_le (h.2 ch hc) (by decide), by show 10 * y.length + 2 ≤ 302; have := h.1; omega, by simp [PyData.depth]⟩
theorem log_small {i : Int} (h0 : 0 ≤ i) (h1 : i ≤ 1000000) : i.natAbs.log2 < 1920 := by
  by_cases h : i.natAbs = 0
  · rw [h]; decide
  · refine (Nat.log2_lt h).mpr (Nat.lt_of_le_of_lt (show i.natAbs ≤ 1000000 by omega) (Nat.lt_of_lt_of_le (show 1000000 < 2 ^ 20 by decide) (Nat.pow_le_pow_right (by decide) (by decide))))
theorem sm_mD {o : Option Int} (h : ∀ i, o = some i → 0 ≤ i ∧ i ≤ 1000000) : Sm 1921 0 (mD o) := by
  cases o with
  | none => exact ⟨trivial, by decide, by simp [mD, PyData.depth]⟩
  | some i => exact ⟨log_small (h i rfl).1 (h i rfl).2, Nat.le_refl _, by simp [mD, PyData.depth]⟩
theorem sm_tup {α : Type} {c k : Nat} (g : α → PyData) (xs : List α) (h : ∀ x ∈ xs, Sm c k (g x)) : Sm (xs.length * (c + 2) + 3) (k + 1) (.tuple (xs.map g)) :=
  ⟨fines_map g xs fun x hx => (h x hx).f, Nat.add_le_add_right (costs_map g c xs fun x hx => (h x hx).c) 3, by
    have := depth_map g k xs fun x hx => (h x hx).d
    simp only [PyData.depth]
    omega⟩
theorem Sm.mono {c c' k k' : Nat} {d : PyData} (h : Sm c k d) (l : c ≤ c') (m : k ≤ k') : Sm c' k' d := ⟨h.f, Nat.le_trans h.c l, Nat.le_trans h.d m⟩
theorem sm_rd {T : Tn} (ok : TwOk T) : ∀ r ∈ T.roads, Sm 5000 1 (rdD r) := fun r hr => by
  obtain ⟨h1, h2, h3, h4⟩ := ok.rd r hr
  have a := sm_str (ok.nm _ h1)
  have b := sm_str (ok.nm _ h2)
  have c := sm_mD (o := r.there) fun i e => by have := h3 i e; omega
  have d := sm_mD (o := r.back) fun i e => by have := h4 i e; omega
  have ac := a.c
  have bc := b.c
  have cc := c.c
  have dc := d.c
  have ad := a.d
  have bd := b.d
  have cd := c.d
  have dd := d.d
  refine ⟨⟨a.f, b.f, c.f, d.f, trivial⟩, ?_, ?_⟩
  · show cost (.str r.one) + 2 + (cost (.str r.two) + 2 + (cost (mD r.there) + 2 + (cost (mD r.back) + 2 + 0))) + 3 ≤ 5000
    omega
  · unfold rdD
    simp only [PyData.depth, PyData.depthAll] at *
    omega
theorem sm_tn {T : Tn} (ok : TwOk T) {r : Int} (h0 : 0 ≤ r) (h1 : r ≤ 121) : Sm 120000 3 (tnD { T with reach := r }) := by
  have a := sm_tup (α := Str) (c := 302) (k := 0) PyData.str T.places fun y hy => sm_str (ok.nm y hy)
  have b := sm_tup rdD T.roads (sm_rd ok)
  have c := sm_tup (α := Str) (c := 302) (k := 0) PyData.str T.stands fun y hy => sm_str (ok.nm y (ok.sp y hy))
  have ac := a.c
  have bc := b.c
  have cc := c.c
  have ad := a.d
  have bd := b.d
  have cd := c.d
  have p10 := ok.p10
  have r18 := ok.r18
  have s5 := ok.s5
  refine ⟨⟨a.f, b.f, c.f, log_small (i := r) h0 (by omega), trivial⟩, ?_, ?_⟩
  · show cost (.tuple (T.places.map .str)) + 2 + (cost (.tuple (T.roads.map rdD)) + 2 + (cost (.tuple (T.stands.map .str)) + 2 + (1921 + 2 + 0))) + 3 ≤ 120000
    omega
  · unfold tnD
    simp only [PyData.depth, PyData.depthAll] at *
    omega

/-! ### rows that are drawn -/
theorem g_sortT {K : PySem.W.Frag} {H : Hp} {a : Addr} {ys : List Str} {Q : VK} (h : H a = some (.lst (ys.map V.str))) (q : ∀ p H' (zs : List Str), H p = none → Keep [] H H' → zs.Perm ys → H' p = some (.lst (zs.map V.str)) → Q (.ref p) H') : uSorted K [.ref a] H Q := by
  refine ⟨Str, fun x y => x = V.str y, PyData.str, a, _, ys, rfl, lst_sq h, ei_map V.str (fun _ => rfl) ys, fun x r e => by rw [e]; exact .str r, PySem.W.AllAlike.of fun _ _ => rfl, Or.inr fun d hd => ?_, fun r _ => by simp [PyData.depth], fun us _ eu p H' n k e' => ?_⟩
  · obtain ⟨r, _, rfl⟩ := List.mem_map.mp hd
    exact ⟨(fun z => nomatch z), fun xs z => nomatch z⟩
  · have key : ∀ {us : List V} {zs : List Str}, EI (fun x y => x = V.str y) us zs → us = zs.map V.str := by
      intro us zs h
      induction h with
      | nil => rfl
      | cons h _ ih => rw [List.map_cons, h, ih]
    rw [key eu] at e'
    exact q p H' _ n k (List.mergeSort_perm _ _) e'
structure RsOk (T : Tn) (rs : List Rw) : Prop where
  l : rs.length ≤ 5
  nd : (rs.map Rw.w).Nodup
  nm : ∀ r ∈ rs, NmS 30 r.w
  ne : ∀ r ∈ rs, 1 ≤ r.w.length
  p : ∀ r ∈ rs, r.p ∈ T.places
  c : ∀ r ∈ rs, r.can.length ≤ 5 ∧ ∀ s ∈ r.can, s ∈ T.places
theorem cutS_map {ys : List Str} {lo hi : Option Int} : ∃ zs : List Str, cutV (ys.map V.str) lo hi = zs.map V.str ∧ zs.length ≤ ys.length ∧ ∀ z ∈ zs, z ∈ ys := by
  refine ⟨(ys.drop (HT.sIx ys.length 0 lo)).take (HT.sIx ys.length ys.length hi - HT.sIx ys.length 0 lo), ?_, ?_, fun z hz => List.mem_of_mem_drop (List.mem_of_mem_take hz)⟩
  · unfold cutV
    rw [List.length_map, List.map_take, List.map_drop]
  · rw [List.length_take, List.length_drop]
    omega
def spRows : Sp := fun vs H Q _ => ∃ (d c t : Addr) (n : Nat) (T : Tn), vs = [.ref d, .ref t] ∧ n < 500000 ∧ PenOk H d c n ∧ TnAt H t T ∧ TwOk T ∧ ∀ l H' rv rs, H l = none → Keep [d] H H' → PenOk H' d c (n + 100) → H' l = some (.lst rv) → EI (RwAt H') rv rs → RsOk T rs → Q (.ref l) H'
theorem rd_rows (K : PySem.W.Frag) : ∀ vs H Q E, spRows vs H Q E → run (t__law_rows K spDraw spNamesH) (L2.start N__law_rows vs) H Q := by
  rintro _ H Q _ ⟨d, c, t, n, T, rfl, hn, p, hT, ok, q⟩
  show run (t__law_rows K spDraw spNamesH) [some (.ref d), some (.ref t), none, none, none, none, none, none, none] H Q
  have p1' := ok.p1
  have p10 := ok.p10
  have s5 := ok.s5
  have s1 := ok.s1
  unfold t__law_rows
  walk_at "sx"
  refine ⟨by walk_at "sz", fun fl H1 nf k1 e1 => ?_⟩
  walk_at "sx"
  have pA := p.keep k1
  refine ⟨d, c, 6, _, rfl, by decide, by decide, by omega, pA, fun many H2 k2 p2 b0 b1 => ?_⟩
  walk_at "sx"
  obtain ⟨m, rfl⟩ : ∃ m : Nat, many = (m : Int) := ⟨many.toNat, by omega⟩
  refine ⟨d, c, _, m, rfl, by omega, p2, by omega, fun nl H3 ys nn k3 p3 e3 ly oy ndy zy => ?_⟩
  refine g_sortT e3 fun sl H4 zs ns k4 pz e4 => ?_
  have p4 := p3.keep k4
  have lz : zs.length = m := by rw [pz.length_eq, ly]
  have nfd : fl ≠ d := pA.neL e1
  have e14 : H4 fl = some (.lst []) := k4 _ _ nin0 (k3 _ _ (nin1 nfd) (k2 _ _ (nin1 nfd) e1))
  have k14 : Keep [d] H H4 := k1.all.trans (k2.trans (k3.trans k4.all))
  have nsf : sl ≠ fl := (ne_of_none (k3 _ _ (nin1 nfd) (k2 _ _ (nin1 nfd) e1)) ns).symm
  have nsd : sl ≠ d := p4.neL e4
  have hS : ∀ {x}, x ∈ [d, fl] ↔ x = d ∨ x = fl := by intro x; simp
  have NT : NoTup [d, fl] H4 := fun a xs ta h => by
    rcases hS.mp h with rfl | rfl
    · exact p4.neT ta rfl
    · exact ta.neL e14 rfl
  have hT4 := hT.keep k14 p.noTup
  have cfl : c ≠ fl := (p.new nf).2
  have w1 : ∀ {H' H''}, Keep [d] H' H'' → Keep [d, fl] H' H'' := fun k => k.wide fun x hx => hS.mpr (.inl (List.mem_singleton.mp hx))
  have w2 : ∀ {H' H''}, Keep [fl] H' H'' → Keep [d, fl] H' H'' := fun k => k.wide fun x hx => hS.mpr (.inr (List.mem_singleton.mp hx))
  refine g_FEs (RR := fun _ (x : V) (y : Str) => x = V.str y) [d, fl] (.inl e4) (fun h => (hS.mp h).elim nsd nsf) (ei_map V.str (fun _ => rfl) zs) (fun _ _ _ h _ => h) (fun j σ H' => ∃ y4 y5 y6 y7 y8, σ = [some (.ref d), some (.ref t), some (.ref fl), some (.int (m : Int)), y4, y5, y6, y7, y8] ∧ PenOk H' d c (n + 35 + 10 * j) ∧ ∃ rv rs, H' fl = some (.lst rv) ∧ EI (RwAt H') rv rs ∧ rs.map Rw.w = zs.take j ∧ (∀ r ∈ rs, r.p ∈ T.places) ∧ ∀ r ∈ rs, r.can.length ≤ 5 ∧ ∀ s ∈ r.can, s ∈ T.places)
    ⟨_, _, _, _, _, rfl, p4.mono (by omega), [], [], e14, .nil, rfl, fun _ h => (List.not_mem_nil h).elim, fun _ h => (List.not_mem_nil h).elim⟩ ?_ ?_
  · rintro j _ y σ H5 hy k5 rfl ⟨y4, y5, y6, y7, y8, rfl, p5, rv, rs, ef, er, ew, hp, hcan⟩
    have hj := (List.getElem?_eq_some_iff.mp hy).1
    have hT5 := hT4.keep k5 NT
    obtain ⟨ap, ar, as, rdv, g1, g2, g3, g4, g5⟩ := hT5
    walk_at "sx"
    unfold t__law_rows_b1
    walk_at "sx"
    refine g_ixT g1 (at_lit 0 rfl rfl) (g_ixT g1 (at_lit 2 rfl rfl) ⟨by walk_at "sz", fun pl H6 n6 k6 e6 => ?_⟩)
    refine ⟨d, c, 2, _, rfl, by decide, by decide, by omega, p5.keep k6, fun v H7 k7 p7 v0 v1 => ?_⟩
    have npd : pl ≠ d := (p5.keep k6).neL e6
    obtain ⟨po, hpo, us, tpo, lu1, lu2, usin⟩ : ∃ po, atI [V.ref ap, V.ref as] v = some (.ref po) ∧ ∃ us : List Str, Tup H5 po (us.map V.str) ∧ 1 ≤ us.length ∧ us.length ≤ 10 ∧ ∀ u ∈ us, u ∈ T.places := by
      have : v = 0 ∨ v = 1 := by omega
      rcases this with rfl | rfl
      · exact ⟨ap, rfl, T.places, g2, p1', p10, fun _ h => h⟩
      · exact ⟨as, rfl, T.stands, g5, s1, by omega, ok.sp⟩
    refine g_ixL (k7 _ _ (nin1 npd) e6) hpo ?_
    walk_at "sx"
    refine ⟨d, c, 4, _, rfl, by decide, by decide, by omega, p7, fun lot H8 k8 p8 l0 l1 => ?_⟩
    walk_at "sx"
    have k58 : Keep [d] H5 H8 := k6.all.trans (k7.trans k8)
    have nt5 := p5.noTup
    have g18 := g1.keep k58 (nt5 _ _ g1)
    have g58 := g5.keep k58 (nt5 _ _ g5)
    refine g_ixT g18 (at_lit 2 rfl rfl) ?_
    refine g_CT (S := [d]) p8.there g58 (nin1 (p8.neT g58)) ⟨fun i H' acc => ∃ ss : List Str, acc = ss.map V.str ∧ ss.length ≤ i ∧ (∀ s ∈ ss, s ∈ T.places) ∧ PenOk H' d c (n + 37 + 10 * j + i), fun _ _ _ k => ⟨[], rfl, Nat.le_refl _, fun _ h => (List.not_mem_nil h).elim, (p8.keep k).mono (by omega)⟩, ?_, ?_⟩
    · rintro D i H9 acc R R0 nD hi k9 eD ⟨ss, rfl, hl, hss, p9⟩ hR hR0
      rw [List.length_map] at hi
      obtain ⟨n1, n2⟩ := p8.new nD
      have e3' : (T.stands.map V.str).getD i .non = .str T.stands[i] := by rw [List.getD_eq_getElem?_getD, List.getElem?_map, List.getElem?_eq_getElem hi]; rfl
      have hin := ok.sp _ (List.getElem_mem hi)
      show gName 8 ((T.stands.map V.str).getD i .non) _ _ _
      rw [e3']
      generalize T.stands[i] = s at hin
      have yes : ∀ H', Keep [d] H9 H' → PenOk H' d c (n + 37 + 10 * j + i + 1) → R (.str s) H' := fun H' k' p' => hR _ _ k' (by rw [List.length_map]; exact len_lt (by omega)) fun H'' k'' => ⟨ss ++ [s], by rw [List.map_append]; rfl, by simp; omega, fun x hx => (List.mem_append.mp hx).elim (hss x) fun h => by rw [List.mem_singleton.mp h]; exact hin, p'.keepL k'' n1 n2⟩
      have no : ∀ H', Keep [d] H9 H' → PenOk H' d c (n + 37 + 10 * j + i + 1) → R0 H' := fun H' k' p' => hR0 _ k' ⟨ss, rfl, by omega, hss, p'⟩
      walk_at "sx"
      split
      · exact yes _ (Keep.refl _ _) (p9.mono (by omega))
      · refine g_eq rfl ?_
        walk_at "sx"
        split
        · refine ⟨d, c, 2, _, rfl, by decide, by decide, by omega, p9, fun x HA kA pA' x0 x1 => g_eq rfl ?_⟩
          walk_at "sx"
          split
          · exact yes _ kA pA'
          · exact no _ kA pA'
        · exact no _ (Keep.refl _ _) (p9.mono (by omega))
    · rintro D H9 acc nD k9 eD ⟨ss, rfl, hl, hss, p9⟩
      rw [List.length_map] at hl p9
      walk_at "sx"
      have k59 : Keep [d] H5 H9 := k58.trans k9
      have ef9 := k59 _ _ (nin1 nfd) ef
      refine ⟨.inl ⟨rfl, _, .inl (.inl ef9)⟩, ?_⟩
      have tpo9 := tpo.keep k59 (nt5 _ _ tpo)
      refine g_lenT tpo9 ?_
      refine ⟨d, c, _, _, rfl, by rw [List.length_map]; omega, by rw [List.length_map]; omega, by omega, p9, fun x HA kA pA' x0 x1 => ?_⟩
      rw [List.length_map] at x1
      have nt9 := p9.noTup
      have hx' : x.toNat < us.length := by omega
      refine g_ixT (tpo9.keep kA (nt9 _ _ tpo9)) (at_lit (v := .str us[x.toNat]) x.toNat (by omega) (by rw [List.getElem?_map, List.getElem?_eq_getElem hx']; rfl)) ?_
      have hpin := usin _ (List.getElem_mem hx')
      generalize us[x.toNat] = post at hpin
      refine ⟨by walk_at "sz", fun cl' HB nB kB eB => ?_⟩
      have k5B : Keep [d] H5 HB := k59.trans (kA.trans kB.all)
      refine g_ixT (g1.keep k5B (nt5 _ _ g1)) (at_lit 3 rfl rfl) ?_
      walk_at "sx"
      obtain ⟨w, hw⟩ : ∃ w : Int, atI [V.int (9 - (m : Int)), V.int 5] (if T.reach < 2 then 1 else 0) = some (.int w) := by
        split
        · exact ⟨_, rfl⟩
        · exact ⟨_, rfl⟩
      refine g_ixL eB hw ⟨w, rfl, ?_⟩
      have nDd : D ≠ d := (p8.new nD).1.symm
      have eDB := kB _ _ nin0 (kA _ _ (nin1 nDd) eD)
      refine g_slL (lst_sq eDB) fun l2 HC nC kC eC => ?_
      obtain ⟨can, ecan, lcan, mcan⟩ := cutS_map (ys := ss) (lo := none) (hi := some w)
      rw [ecan] at eC
      refine g_tupleL eC fun ct HD nD' kD tD => ⟨by walk_at "sz", fun rp HE nE kE tE => ?_⟩
      have k5E : Keep [d] H5 HE := k5B.trans (kC.all.trans (kD.all.trans kE.all))
      have efE := k5E _ _ (nin1 nfd) ef
      have lrv : rv.length = j := by rw [er.length, ← List.length_map (f := Rw.w), ew, List.length_take]; omega
      refine g_append efE (by exact len_lt (by omega)) fun HF kF eF => ⟨k5.trans ((w1 k5E).trans (w2 kF)), _, _, _, _, _, rfl, ?_, _, rs ++ [⟨y, post, can⟩], eF, ?_, ?_, fun r hr => ?_, fun r hr => ?_⟩
      · exact ((((pA'.keep kB).keep kC).keep kD).keep kE).keepL kF nfd.symm cfl |>.mono (by omega)
      · have ntE : NoTup [fl] HE := noTup1 efE
        exact ei_snoc (R := RwAt HF) ⟨rp, ct, rfl, tE.keep kF (ntE _ _ tE), (tD.keep kE nin0).keep kF (ntE _ _ (tD.keep kE nin0))⟩ (rws_keep (rws_keep er k5E nt5) kF ntE)
      · rw [List.map_append, ew, List.take_succ, hy]
        rfl
      · rcases List.mem_append.mp hr with hr | hr
        · exact hp r hr
        · rw [List.mem_singleton.mp hr]
          exact hpin
      · rcases List.mem_append.mp hr with hr | hr
        · exact hcan r hr
        · rw [List.mem_singleton.mp hr]
          exact ⟨by show can.length ≤ 5; omega, fun s hs => hss s (mcan s hs)⟩
  · rintro σ H5 k5 ⟨y4, y5, y6, y7, y8, rfl, p5, rv, rs, ef, er, ew, hp, hcan⟩
    unfold t__law_rows_r1
    walk_at "sx"
    rw [List.take_length] at ew
    have hlr : rs.length = zs.length := by rw [← List.length_map (f := Rw.w), ew]
    refine q fl H5 rv rs nf ?_ (p5.mono (by omega)) ef er ⟨by omega, by rw [ew]; exact pz.nodup_iff.mpr ndy, fun r hr => oy _ (pz.mem_iff.mp (by rw [← ew]; exact List.mem_map.mpr ⟨r, hr, rfl⟩)), fun r hr => zy _ (pz.mem_iff.mp (by rw [← ew]; exact List.mem_map.mpr ⟨r, hr, rfl⟩)), hp, hcan⟩
    exact fun b o hb e => k5 b o (fun h => (hS.mp h).elim (fun z => hb (List.mem_singleton.mpr z)) fun z => by rw [z, nf] at e; cases e) (k14 b o hb e)
/-! ### plans that are drawn -/
structure MsOk (T : Tn) (ms : List (Str × Str)) : Prop where
  l : ms.length ≤ 5
  nm : ∀ m ∈ ms, NmS 30 m.1
  p : ∀ m ∈ ms, m.2 ∈ T.places
theorem shaped_list {ds : List PyData} (h1 : PyData.canLayAll0 ds = true) (h2 : PyData.depthAll ds ≤ 4) : SeqAt.shaped (.list ds) = true := by
  unfold SeqAt.shaped
  rw [Bool.and_eq_true_iff]
  refine ⟨by simp [PyData.canLay0, h1], decide_eq_true ?_⟩
  simp [PyData.depth]
  omega
theorem dp_strsN {K : PySem.W.Frag} {H : Hp} : ∀ ys : List Str, DpAll K H (ys.map V.str) (ys.map PyData.str)
  | [] => .nil
  | y :: ys => .cons (.str y) (dp_strsN ys)
theorem ne_nilN {K : PySem.W.Frag} {H : Hp} {a b : Addr} {ys : List Str} {Q : VK} (nm : ∀ y ∈ ys, NmS 30 y) (h : H a = some (.lst (ys.map V.str))) (e : H b = some (.lst [])) (q : Q (.bl (!decide (ys = []))) H) : uEq K true (.ref a) (.ref b) H Q := by
  obtain ⟨h1, h2⟩ := lay_strs nm
  refine .inr ⟨_, _, .lst (lst_sq h) (dp_strsN ys), .lst (lst_sq e) .nil, shaped_list h1 (by omega), by decide +kernel, ?_⟩
  rw [if_pos rfl]
  cases ys with
  | nil => exact q
  | cons y ys => exact q
theorem eq_nilN {K : PySem.W.Frag} {H : Hp} {a b : Addr} {ys : List Str} {Q : VK} (nm : ∀ y ∈ ys, NmS 30 y) (h : H a = some (.lst (ys.map V.str))) (e : H b = some (.lst [])) (q : Q (.bl (decide (ys = []))) H) : uEq K false (.ref a) (.ref b) H Q := by
  obtain ⟨h1, h2⟩ := lay_strs nm
  refine .inr ⟨_, _, .lst (lst_sq h) (dp_strsN ys), .lst (lst_sq e) .nil, shaped_list h1 (by omega), by decide +kernel, ?_⟩
  rw [if_neg (by decide)]
  cases ys with
  | nil => exact q
  | cons y ys => exact q
theorem dec_strN (a b : Str) : decide (V.str a = V.str b) = decide (a = b) := by
  rw [decide_eq_decide]
  exact ⟨fun h => by injection h, fun h => by rw [h]⟩
def spPlan : Sp := fun vs H Q _ => ∃ (d c rl : Addr) (n : Nat) (T : Tn) (rv : List V) (rs : List Rw), vs = [.ref d, .ref rl] ∧ n < 500000 ∧ PenOk H d c n ∧ TwOk T ∧ H rl = some (.lst rv) ∧ EI (RwAt H) rv rs ∧ RsOk T rs ∧
  ∀ l H' mv ms, H l = none → Keep [d] H H' → PenOk H' d c (n + 20) → H' l = some (.lst mv) → EI (MvAt H') mv ms → MsOk T ms → Q (.ref l) H'
theorem rd_plan (K : PySem.W.Frag) : ∀ vs H Q E, spPlan vs H Q E → run (t__law_plan_by K spDraw) (L2.start N__law_plan_by vs) H Q := by
  rintro _ H Q _ ⟨d, c, rl, n, T, rv, rs, rfl, hn, p, ok, hr, er, rok, q⟩
  show run (t__law_plan_by K spDraw) [some (.ref d), some (.ref rl), none, none, none, none, none, none, none] H Q
  have r5 := rok.l
  unfold t__law_plan_by
  walk_at "sx"
  refine ⟨d, c, 3, _, rfl, by decide, by decide, by omega, p, fun lot H1 k1 p1 l0 l1 => ?_⟩
  walk_at "sx"
  refine ⟨by walk_at "sz", fun fl H2 nf k2 e2 => ?_⟩
  walk_at "sx"
  have p2 := p1.keep k2
  have k12 : Keep [d] H H2 := k1.trans k2.all
  have nfd : fl ≠ d := p2.neL e2
  have nrd : rl ≠ d := p.neL hr
  have hr2 := k12 _ _ (nin1 nrd) hr
  have nrf : rl ≠ fl := ne_of_none (k1 _ _ (nin1 nrd) hr) nf
  have er2 := rws_keep er k12 p.noTup
  have cfl : c ≠ fl := (p1.new nf).2
  have hS : ∀ {x}, x ∈ [d, fl] ↔ x = d ∨ x = fl := by intro x; simp
  have NT : NoTup [d, fl] H2 := fun a xs ta h => by
    rcases hS.mp h with rfl | rfl
    · exact p2.neT ta rfl
    · exact ta.neL e2 rfl
  have w1 : ∀ {H' H''}, Keep [d] H' H'' → Keep [d, fl] H' H'' := fun k => k.wide fun x hx => hS.mpr (.inl (List.mem_singleton.mp hx))
  have w2 : ∀ {H' H''}, Keep [fl] H' H'' → Keep [d, fl] H' H'' := fun k => k.wide fun x hx => hS.mpr (.inr (List.mem_singleton.mp hx))
  have nf0 : H fl = none := k1.freeD nf p p1
  refine g_FEs (RR := RwAt) [d, fl] (.inl hr2) (fun h => (hS.mp h).elim nrd nrf) er2 (fun H' x r h k => h.keep k NT) (fun j σ H' => ∃ y4 y5 y6 y7 y8, σ = [some (.ref d), some (.ref rl), some (.int lot), some (.ref fl), y4, y5, y6, y7, y8] ∧ PenOk H' d c (n + 1 + 2 * j) ∧ ∃ mv ms, H' fl = some (.lst mv) ∧ EI (MvAt H') mv ms ∧ ms.length ≤ j ∧ (∀ m ∈ ms, NmS 30 m.1) ∧ ∀ m ∈ ms, m.2 ∈ T.places)
    ⟨_, _, _, _, _, rfl, p2, [], [], e2, .nil, Nat.le_refl _, fun _ h => (List.not_mem_nil h).elim, fun _ h => (List.not_mem_nil h).elim⟩ ?_ ?_
  · rintro j x r σ H3 hj k3 ⟨pr, ct, rfl, tp, tc⟩ ⟨y4, y5, y6, y7, y8, rfl, p3, mv, ms, ef, em, lm, mn, mp⟩
    have hj5 := (List.getElem?_eq_some_iff.mp hj).1
    have hrm := List.mem_of_getElem? hj
    obtain ⟨c5, cin⟩ := rok.c r hrm
    refine g_tup tp rfl ?_
    walk_at "sx"
    refine ⟨_, _, rfl, _, _, rfl, _, _, rfl, rfl, ?_⟩
    unfold t__law_plan_by_b1
    walk_at "sx"
    refine g_CE (RR := fun _ (x : V) (y : Str) => x = V.str y) (.inr tc) (ei_map V.str (fun _ => rfl) r.can) (fun _ _ _ _ h _ => h) (fun i H' acc => acc = ((r.can.take i).filter fun s => decide (s ≠ r.p)).map V.str) (fun _ _ _ _ => rfl) ?_ ?_
    · rintro L i _ s H4 acc R R0 nL hs k4 eL rfl rfl hR hR0
      have nx := flt_next (p := fun s => decide (s ≠ r.p)) hs
      walk_at "sx"
      refine g_ne rfl ⟨_, rfl, ?_⟩
      rw [dec_strN]
      by_cases h : s = r.p
      · rw [decide_eq_true h, if_neg (by decide)]
        rw [if_neg (by simpa using h), List.append_nil] at nx
        refine hR0 _ (Keep.refl _ _) ?_
        rw [nx]
      · rw [decide_eq_false h, if_pos (by decide)]
        rw [if_pos (by simpa using h)] at nx
        refine hR _ _ (Keep.refl _ _) (by rw [List.length_map]; exact len_lt (by have := flt_len (p := fun s => decide (s ≠ r.p)) (l := r.can) (i := i); omega)) fun H5 _ => ?_
        rw [nx, List.map_append]
        rfl
    rintro so H4 acc nso k4 es rfl
    rw [List.take_length] at es
    have l5 : (r.can.filter fun s => decide (s ≠ r.p)).length ≤ 5 := Nat.le_trans (List.length_filter_le _ _) c5
    have sin : ∀ s ∈ r.can.filter (fun s => decide (s ≠ r.p)), s ∈ T.places := fun s hs => cin s (List.mem_filter.mp hs).1
    generalize r.can.filter (fun s => decide (s ≠ r.p)) = some' at es l5 sin
    walk_at "sx"
    refine ⟨by walk_at "sz", fun e0 H5 n5 k5 e5 => ne_nilN (fun y hy => ok.nm y (sin y hy)) (k5 _ _ nin0 es) e5 ⟨_, rfl, ?_⟩⟩
    have k35 : Keep [] H3 H5 := k4.trans k5
    have p5 := p3.keep k35
    have ef5 := k35 _ _ nin0 ef
    have em5 := mvs_keep em k35 noTup0
    have skip : ∀ H', Keep [d] H5 H' → PenOk H' d c (n + 1 + 2 * (j + 1)) → Keep [d, fl] H2 H' ∧ ∃ z4 z5 z6 z7 z8, [some (V.ref d), some (.ref rl), some (.int lot), some (.ref fl), some (.str r.w), some (.str r.p), some (.ref ct), some (.ref so), y8] = [some (.ref d), some (.ref rl), some (.int lot), some (.ref fl), z4, z5, z6, z7, z8] ∧ PenOk H' d c (n + 1 + 2 * (j + 1)) ∧ ∃ mv ms, H' fl = some (.lst mv) ∧ EI (MvAt H') mv ms ∧ ms.length ≤ j + 1 ∧ (∀ m ∈ ms, NmS 30 m.1) ∧ ∀ m ∈ ms, m.2 ∈ T.places := fun H' k' p' =>
      ⟨k3.trans (k35.all.trans (w1 k')), _, _, _, _, _, rfl, p', mv, ms, k' _ _ (nin1 nfd) ef5, mvs_keep em5 k' p5.noTup, by omega, mn, mp⟩
    by_cases hne : some' = []
    · rw [decide_eq_true hne, if_neg (by decide)]
      exact skip _ (Keep.refl _ _) (p5.mono (by omega))
    · rw [decide_eq_false hne, if_pos (by decide)]
      have l1' : 1 ≤ some'.length := by
        cases some' with
        | nil => exact absurd rfl hne
        | cons _ _ => simp
      have nsd' : so ≠ d := (p3.keep k4).neL es
      have add : ∀ H6, Keep [d] H5 H6 → PenOk H6 d c (n + 1 + 2 * j + 1) → tyV K "list" (.ref fl) H6 ∧ uLen K [.ref so] H6 fun x H1 => spDraw [.ref d, x] H1 (fun y H2_1 => uIx K (.ref so) y H2_1 fun x H1 => [V.str r.w, x].length ≤ sizeLine ∧ Mt H1 [V.str r.w, x] fun x H1 => uAppend (.ref fl) [x] H1 fun _ H' => (Keep [d, fl] H2 H' ∧ ∃ z4 z5 z6 z7 z8, [some (V.ref d), some (.ref rl), some (.int lot), some (.ref fl), some (.str r.w), some (.str r.p), some (.ref ct), some (.ref so), y8] = [some (.ref d), some (.ref rl), some (.int lot), some (.ref fl), z4, z5, z6, z7, z8] ∧ PenOk H' d c (n + 1 + 2 * (j + 1)) ∧ ∃ mv ms, H' fl = some (.lst mv) ∧ EI (MvAt H') mv ms ∧ ms.length ≤ j + 1 ∧ (∀ m ∈ ms, NmS 30 m.1) ∧ ∀ m ∈ ms, m.2 ∈ T.places)) E0 := fun H6 k6 p6 => by
        have ef6 := k6 _ _ (nin1 nfd) ef5
        have es6 := k6 _ _ (nin1 nsd') (k5 _ _ nin0 es)
        refine ⟨.inl ⟨rfl, _, .inl (.inl ef6)⟩, g_lenL es6 ?_⟩
        rw [List.length_map]
        refine ⟨d, c, _, _, rfl, by omega, by omega, by omega, p6, fun x H7 k7 p7 x0 x1 => ?_⟩
        have hx' : x.toNat < some'.length := by omega
        have k57 := k6.trans k7
        refine g_ixL (k7 _ _ (nin1 nsd') es6) (at_lit (v := .str some'[x.toNat]) x.toNat (by omega) (by rw [List.getElem?_map, List.getElem?_eq_getElem hx']; rfl)) ?_
        have hpin := sin _ (List.getElem_mem hx')
        generalize some'[x.toNat] = st at hpin
        refine ⟨by walk_at "sz", fun mp' H8 n8 k8 t8 => ?_⟩
        have k58 : Keep [d] H5 H8 := k57.trans k8.all
        have ef8 := k58 _ _ (nin1 nfd) ef5
        have lmv : mv.length ≤ j := by rw [em.length]; exact lm
        refine g_append ef8 (by exact len_lt (by omega)) fun H9 k9 e9 => ⟨k3.trans (k35.all.trans ((w1 k58).trans (w2 k9))), _, _, _, _, _, rfl, ((p7.keep k8).keepL k9 nfd.symm cfl).mono (by omega), _, ms ++ [(r.w, st)], e9, ?_, by simp; omega, fun m hm => ?_, fun m hm => ?_⟩
        · have nt8 : NoTup [fl] H8 := noTup1 ef8
          exact ei_snoc (R := MvAt H9) ⟨mp', rfl, t8.keep k9 (nt8 _ _ t8)⟩ (mvs_keep (mvs_keep em5 k58 p5.noTup) k9 nt8)
        · rcases List.mem_append.mp hm with hm | hm
          · exact mn m hm
          · rw [List.mem_singleton.mp hm]
            exact rok.nm r hrm
        · rcases List.mem_append.mp hm with hm | hm
          · exact mp m hm
          · rw [List.mem_singleton.mp hm]
            exact hpin
      refine g_eq rfl ?_
      walk_at "sx"
      split
      · exact add _ (Keep.refl _ _) (p5.mono (by omega))
      · refine g_eq rfl ?_
        walk_at "sx"
        split
        · refine ⟨d, c, 2, _, rfl, by decide, by decide, by omega, p5, fun x H6 k6 p6 x0 x1 => g_eq rfl ?_⟩
          walk_at "sx"
          split
          · exact add _ k6 p6
          · exact skip _ k6 (p6.mono (by omega))
        · exact skip _ (Keep.refl _ _) (p5.mono (by omega))
  · rintro σ H3 k3 ⟨y4, y5, y6, y7, y8, rfl, p3, mv, ms, ef, em, lm, mn, mp⟩
    unfold t__law_plan_by_r1
    walk_at "sx"
    have hlr := er.length
    refine q fl H3 mv ms nf0 ?_ (p3.mono (by omega)) ef em ⟨by omega, mn, mp⟩
    exact fun b o hb e => k3 b o (fun h => (hS.mp h).elim (fun z => hb (List.mem_singleton.mpr z)) fun z => by rw [z, nf0] at e; cases e) (k12 b o hb e)

/-! ### things that a plan may hold -/
def scD : V → PyData
  | .bl b => .bool b
  | .int i => .int i
  | .str y => .str y
  | _ => .none
def scOk : V → Prop
  | .non => True
  | .bl _ => True
  | .int i => i = 0
  | .str y => NmS 60 y
  | _ => False
inductive Im
  | sc (v : V)
  | tup (us : List V)
  | lst (us : List V)
  | dic
def ImAt (H : Hp) (x : V) : Im → Prop
  | .sc v => x = v ∧ scOk v
  | .tup us => (∃ a, x = .ref a ∧ Tup H a us) ∧ (∀ u ∈ us, scOk u) ∧ us.length ≤ 3
  | .lst us => (∃ a, x = .ref a ∧ H a = some (.lst us)) ∧ (∀ u ∈ us, scOk u) ∧ us.length ≤ 3
  | .dic => ∃ a, x = .ref a ∧ H a = some (.dK [])
def imD : Im → PyData
  | .sc v => scD v
  | .tup us => .tuple (us.map scD)
  | .lst us => .list (us.map scD)
  | .dic => .dict []
/-- a change of none of these -/
structure Fr0 (S : List Addr) (H : Hp) : Prop where
  t : NoTup S H
  l : ∀ a xs, H a = some (.lst xs) → a ∉ S
  d : ∀ a, H a = some (.dK []) → a ∉ S
theorem ImAt.keep {S : List Addr} {H H' : Hp} {x : V} {im : Im} (h : ImAt H x im) (k : Keep S H H') (n : Fr0 S H) : ImAt H' x im := by
  cases im with
  | sc v => exact h
  | tup us => obtain ⟨⟨a, e, t⟩, r⟩ := h; exact ⟨⟨a, e, t.keep k (n.t _ _ t)⟩, r⟩
  | lst us => obtain ⟨⟨a, e, t⟩, r⟩ := h; exact ⟨⟨a, e, k _ _ (n.l _ _ t) t⟩, r⟩
  | dic => obtain ⟨a, e, t⟩ := h; exact ⟨a, e, k _ _ (n.d _ t) t⟩
theorem fr0 {H : Hp} : Fr0 [] H := ⟨noTup0, fun _ _ _ => nin0, fun _ _ => nin0⟩
theorem frT {L : List Addr} {H : Hp} (h : Tabs L H) : Fr0 L H := ⟨h.noTup, fun _ _ e => h.lst e, fun _ e => h.dK e⟩
theorem frP {H : Hp} {d c : Addr} {n : Nat} (p : PenOk H d c n) : Fr0 [d] H := ⟨p.noTup, fun _ _ e => nin1 (p.neL e), fun a e => nin1 fun z => by
  obtain ⟨_, _, _, q, _⟩ := p
  rw [z, q.d] at e
  simp [penK] at e⟩
theorem ims_keep {S : List Addr} {H H' : Hp} {vs : List V} {is : List Im} (h : EI (ImAt H) vs is) (k : Keep S H H') (n : Fr0 S H) : EI (ImAt H') vs is := h.mono fun _ _ q => q.keep k n
inductive Tg
  | sc (v : V)
  | lst (is : List Im)
  | tup (is : List Im)
  | dic
def TgAt (n : Nat) (H : Hp) (x : V) : Tg → Prop
  | .sc v => x = v ∧ scOk v
  | .lst is => (∃ a vs, x = .ref a ∧ H a = some (.lst vs) ∧ EI (ImAt H) vs is) ∧ is.length ≤ n
  | .tup is => (∃ a vs, x = .ref a ∧ Tup H a vs ∧ EI (ImAt H) vs is) ∧ is.length ≤ n
  | .dic => ∃ a, x = .ref a ∧ H a = some (.dK [])
def tgD : Tg → PyData
  | .sc v => scD v
  | .tup is => .tuple (is.map imD)
  | .lst is => .list (is.map imD)
  | .dic => .dict []
theorem TgAt.keep {n : Nat} {S : List Addr} {H H' : Hp} {x : V} {tg : Tg} (h : TgAt n H x tg) (k : Keep S H H') (f : Fr0 S H) : TgAt n H' x tg := by
  cases tg with
  | sc v => exact h
  | tup us => obtain ⟨⟨a, vs, e, t, q⟩, r⟩ := h; exact ⟨⟨a, vs, e, t.keep k (f.t _ _ t), ims_keep q k f⟩, r⟩
  | lst us => obtain ⟨⟨a, vs, e, t, q⟩, r⟩ := h; exact ⟨⟨a, vs, e, k _ _ (f.l _ _ t) t, ims_keep q k f⟩, r⟩
  | dic => obtain ⟨a, e, t⟩ := h; exact ⟨a, e, k _ _ (f.d _ t) t⟩
/-! what isinstance tells -/
theorem kt_n_t : kitB "NoneType" "tuple" = some false := by decide +kernel
theorem kt_b_t : kitB "bool" "tuple" = some false := by decide +kernel
theorem kt_i_t : kitB "int" "tuple" = some false := by decide +kernel
theorem kt_s_t : kitB "str" "tuple" = some false := by decide +kernel
theorem kt_l_t : kitB "list" "tuple" = some false := by decide +kernel
theorem kt_d_t : kitB "dict" "tuple" = some false := by decide +kernel
theorem kt_t_t : kitB "tuple" "tuple" = some true := by decide +kernel
theorem kt_n_l : kitB "NoneType" "list" = some false := by decide +kernel
theorem kt_b_l : kitB "bool" "list" = some false := by decide +kernel
theorem kt_i_l : kitB "int" "list" = some false := by decide +kernel
theorem kt_s_l : kitB "str" "list" = some false := by decide +kernel
theorem kt_l_l : kitB "list" "list" = some true := by decide +kernel
theorem kt_d_l : kitB "dict" "list" = some false := by decide +kernel
theorem kt_t_l : kitB "tuple" "list" = some false := by decide +kernel
theorem kt_n_s : kitB "NoneType" "str" = some false := by decide +kernel
theorem kt_b_s : kitB "bool" "str" = some false := by decide +kernel
theorem kt_i_s : kitB "int" "str" = some false := by decide +kernel
theorem kt_s_s : kitB "str" "str" = some true := by decide +kernel
def tupB : Im → Bool
  | .tup _ => true
  | _ => false
def lstB : Tg → Bool
  | .lst _ => true
  | _ => false
def strB : V → Bool
  | .str _ => true
  | _ => false
theorem g_isTup {K : PySem.W.Frag} {H : Hp} {x : V} {im : Im} {Q : VK} (h : ImAt H x im) (q : Q (.bl (tupB im)) H) : rIsi K [x, .ty "tuple"] H Q := by
  cases im with
  | sc v =>
    obtain ⟨rfl, hv⟩ := h
    cases x with
    | non => exact g_isi (.base .non) kt_n_t q
    | bl b => exact g_isi (.base (.bl b)) kt_b_t q
    | int i => exact g_isi (.base (.int i)) kt_i_t q
    | str y => exact g_isi (.base (.str y)) kt_s_t q
    | _ => exact hv.elim
  | tup us => obtain ⟨⟨a, rfl, t⟩, _⟩ := h; exact g_isi (ty_tup t) kt_t_t q
  | lst us => obtain ⟨⟨a, rfl, t⟩, _⟩ := h; exact g_isi (.base (.lst t)) kt_l_t q
  | dic => obtain ⟨a, rfl, t⟩ := h; exact g_isi (.base (.dK t)) kt_d_t q
theorem g_isLst {K : PySem.W.Frag} {H : Hp} {n : Nat} {x : V} {tg : Tg} {Q : VK} (h : TgAt n H x tg) (q : Q (.bl (lstB tg)) H) : rIsi K [x, .ty "list"] H Q := by
  cases tg with
  | sc v =>
    obtain ⟨rfl, hv⟩ := h
    cases x with
    | non => exact g_isi (.base .non) kt_n_l q
    | bl b => exact g_isi (.base (.bl b)) kt_b_l q
    | int i => exact g_isi (.base (.int i)) kt_i_l q
    | str y => exact g_isi (.base (.str y)) kt_s_l q
    | _ => exact hv.elim
  | tup us => obtain ⟨⟨a, vs, rfl, t, _⟩, _⟩ := h; exact g_isi (ty_tup t) kt_t_l q
  | lst us => obtain ⟨⟨a, vs, rfl, t, _⟩, _⟩ := h; exact g_isi (.base (.lst t)) kt_l_l q
  | dic => obtain ⟨a, rfl, t⟩ := h; exact g_isi (.base (.dK t)) kt_d_l q
theorem g_isStr {K : PySem.W.Frag} {H : Hp} {x : V} {Q : VK} (h : scOk x) (q : Q (.bl (strB x)) H) : rIsi K [x, .ty "str"] H Q := by
  cases x with
  | non => exact g_isi (.base .non) kt_n_s q
  | bl b => exact g_isi (.base (.bl b)) kt_b_s q
  | int i => exact g_isi (.base (.int i)) kt_i_s q
  | str y => exact g_isi (.base (.str y)) kt_s_s q
  | _ => exact h.elim
theorem sc_scal {u : V} {w : Str} (h : scOk u) : scal u (.str w) = true := by
  cases u with
  | non => rfl
  | bl b => rfl
  | int i => rfl
  | str y => rfl
  | _ => exact h.elim
theorem sc_flat {u : V} (h : scOk u) : flatV u = true := by
  cases u with
  | non => rfl
  | bl b => rfl
  | int i => rfl
  | str y => rfl
  | _ => exact h.elim
theorem inV_strs {u : V} (h : scOk u) (zs : List Str) : inV u (zs.map V.str) = decide (u ∈ zs.map V.str) := by
  unfold inV
  induction zs with
  | nil => rfl
  | cons a r ih =>
    rw [List.map_cons, List.any_cons, ih]
    have e : eqV (.str a) u = decide (u = .str a) := by
      cases u with
      | str y =>
        show (a == y) = decide (V.str y = V.str a)
        by_cases e : y = a
        · rw [e]; simp
        · rw [decide_eq_false (fun c => e (by injection c)), beq_eq_false_iff_ne.mpr (fun c => e c.symm)]
      | non => rfl
      | bl b => rfl
      | int i => rfl
      | _ => exact h.elim
    rw [e, Bool.eq_iff_iff]
    simp
theorem flat_strs (zs : List Str) : (zs.map V.str).all flatV = true := by
  rw [List.all_map]
  exact List.all_eq_true.mpr fun _ _ => rfl
theorem g_inS {K : PySem.W.Frag} {H : Hp} {u : V} {p : Addr} {zs : List Str} {Q : VK} (h : scOk u) (t : Tup H p (zs.map V.str)) (q : Q (.bl (decide (u ∈ zs.map V.str))) H) : uIn K false u (.ref p) H Q :=
  .inl ⟨p, _, rfl, .inr t.sq, sc_flat h, flat_strs zs, by rw [if_neg (by decide), inV_strs h]; exact q⟩
theorem g_ninS {K : PySem.W.Frag} {H : Hp} {u : V} {p : Addr} {zs : List Str} {Q : VK} (h : scOk u) (t : Tup H p (zs.map V.str)) (q : Q (.bl (!decide (u ∈ zs.map V.str))) H) : uIn K true u (.ref p) H Q :=
  .inl ⟨p, _, rfl, .inr t.sq, sc_flat h, flat_strs zs, by rw [if_pos rfl, inV_strs h]; exact q⟩
/-! what a plan is -/
def mvOf (u v : V) (r : Rw) : Bool := decide (u = .str r.w) && (decide (v ∈ r.can.map V.str) && !decide (v = .str r.p))
def moveB (rs : List Rw) : Im → Bool
  | .tup [u, v] => rs.any (mvOf u v)
  | _ => false
def headV : Im → V
  | .tup (u :: _) => u
  | _ => .non
def ltV : V → V → Bool
  | .str a, .str b => decide (a.cps.toList < b.cps.toList)
  | _, _ => false
def incB (ws : List V) : Bool := (ws.zip (ws.drop 1)).all fun p => ltV p.1 p.2
def planB (rs : List Rw) : Tg → Bool
  | .lst is => is.all (moveB rs) && incB (is.map headV)
  | _ => false
/-- a comprehension over zip of two lists, the second the shorter -/
theorem g_CZL {K : PySem.W.Frag} {g : TG} {tt : TT} {te : TE} {vs : List Nat} {σ : L2.St} {Q : VK} {H1 : Hp} {a b : Addr} {us ws : List V} (ha : H1 a = some (.lst us)) (hb : H1 b = some (.lst ws)) (hl : ws.length ≤ us.length) (P : Nat → Hp → List V → Prop)
    (p0 : ∀ D H2, H1 D = none → Keep [] H1 H2 → P 0 H2 [])
    (ps : ∀ D i x y H acc (R : VK) (R0 : Hp → Prop) T H', H1 D = none → us[i]? = some x → ws[i]? = some y → Keep [] H1 H' → H' D = some (.lst acc) → Keep [] H H' → P i H acc → H' T = some (.tup [x, y]) →
      (∀ z H4, Keep [] H' H4 → acc.length < sizeLine → (∀ H5, Keep [D] H4 H5 → P (i + 1) H5 (acc ++ [z])) → R z H4) → (∀ H3, Keep [] H' H3 → P (i + 1) H3 acc → R0 H3) →
      g (.ref T) (wipe σ vs) H' fun σ2 H2 => wipe σ2 vs = wipe σ vs ∧ tt σ2 H2 fun bb H3 => if bb = true then te σ2 H3 R else R0 H3)
    (pd : ∀ D H acc, H1 D = none → Keep [] H1 H → H D = some (.lst acc) → P ws.length H acc → Q (.ref D) H) : CZ K g tt te vs σ Q [.ref a, .ref b] H1 := by
  refine ⟨a, b, us, ws, rfl, .inl ⟨lst_sq ha, lst_sq hb, fun D hD => ?_⟩⟩
  refine ⟨fun i m H => m = ws.length - i ∧ i ≤ ws.length ∧ Keep [] H1 H ∧ ∃ acc, H D = some (.lst acc) ∧ P i H acc, ⟨ws.length, by omega, by omega, Keep.new hD, [], upd_same, p0 D _ hD (Keep.new hD)⟩, ?_⟩
  rintro i m H ⟨rfl, hi, k, acc, eD, p⟩
  have ta := lst_sq (K := K) (k _ _ nin0 ha)
  have tb := lst_sq (K := K) (k _ _ nin0 hb)
  by_cases hlt : i < ws.length
  · have hx := List.getElem?_eq_getElem (show i < us.length by omega)
    have hy := List.getElem?_eq_getElem hlt
    refine .inr ⟨⟨us, ws, _, _, ta, tb, hx, hy⟩, fun H' => i + 1 ≤ ws.length ∧ Keep [] H1 H' ∧ ∃ acc, H' D = some (.lst acc) ∧ P (i + 1) H' acc, fun H' q => ⟨ws.length - (i + 1), by omega, rfl, q⟩, fun v H' y => ?_⟩
    obtain ⟨T, x', y', rfl, hT, rfl, f1, f2⟩ := y
    have kn : Keep [] H (upd H T (.tup [x', y'])) := Keep.new hT
    refine ps D i x' y' H acc _ _ T _ hD (f1 us ta) (f2 ws tb) (k.trans kn) (kn _ _ nin0 eD) kn p upd_same (fun z H4 k4 hz q => ⟨acc, k4 _ _ nin0 (kn _ _ nin0 eD), hz, hlt, (k.trans (kn.trans k4)).past Keep.set hD, _, upd_same, q _ Keep.set⟩) fun H3 k3 q => ⟨hlt, k.trans (kn.trans k3), acc, k3 _ _ nin0 (kn _ _ nin0 eD), q⟩
  · have e : i = ws.length := by omega
    subst e
    exact .inl ⟨⟨us, ws, ta, tb, .inr (Nat.le_refl _)⟩, pd D H acc hD k eD p⟩

/-! ### is a move, is a plan -/
theorem RwAt.kt {L : List Addr} {H H' : Hp} {x : V} {r : Rw} (h : RwAt H x r) (ht : Tabs L H) (k : KT L H H') : RwAt H' x r := h.keep k.k ht.noTup
def spMove (L : List Addr) (P : Addr) : Sp := fun vs H Q _ => ∃ (rl : Addr) (x : V) (rv : List V) (rs : List Rw) (im : Im), vs = [.ref rl, x] ∧ H rl = some (.lst rv) ∧ EI (RwAt H) rv rs ∧ ImAt H x im ∧ Tabs L H ∧ P ∈ L ∧ ∀ H', KT L H H' → Q (.bl (moveB rs im)) H'
theorem rd_move (K : PySem.W.Frag) {L : List Addr} {P : Addr} : ∀ vs H Q E, spMove L P vs H Q E → run (t__is_move K P) (L2.start N__is_move vs) H Q := by
  rintro _ H Q _ ⟨rl, x, rv, rs, im, rfl, hr, er, hx, ht, hP, q⟩
  show run (t__is_move K P) [some (.ref rl), some x, none, none, none] H Q
  unfold t__is_move
  walk_at "sx"
  refine g_isTup hx ⟨_, rfl, ?_⟩
  cases im with
  | sc v => exact q H (KT.refl _ _)
  | lst us => exact q H (KT.refl _ _)
  | dic => exact q H (KT.refl _ _)
  | tup us =>
    change if (!true) = true then _ else _
    rw [if_neg (by decide)]
    obtain ⟨⟨a, rfl, tx⟩, ok, l3⟩ := hx
    refine g_lenT tx (g_ne rfl ⟨_, rfl, ?_⟩)
    by_cases h2 : us.length = 2
    · obtain ⟨u, v, rfl⟩ : ∃ u v, us = [u, v] := by
        rcases us with _ | ⟨u, _ | ⟨v, _ | ⟨z, r⟩⟩⟩
        · simp at h2
        · simp at h2
        · exact ⟨u, v, rfl⟩
        · simp at h2
      rw [decide_eq_true (by simp), if_neg (by decide)]
      have hu := ok u (by simp)
      have hv := ok v (by simp)
      unfold t__is_move_r1
      walk_at "sx"
      refine e_genU.mpr ?_
      walk_at "sx"
      refine g_GE (RR := RwAt) (mvOf u v) ht hP (.inl (lst_sq hr)) er (fun H' x r h k => h.kt ht k) ?_ fun H' k' => q H' k'
      rintro i x r H1 R R0 hi k1 t1 ⟨p, ct, rfl, tp, tc⟩ hR
      have tx1 := tx.kt ht k1
      refine g_tup tp rfl ?_
      walk_at "sx"
      refine ⟨_, _, rfl, _, _, rfl, _, _, rfl, rfl, ?_⟩
      walk_at "sx"
      have hR1 := hR H1 (KT.refl _ _)
      unfold mvOf at hR1
      refine g_ixT tx1 (at_lit 0 rfl rfl) (g_eq (sc_scal hu) ⟨_, rfl, ?_⟩)
      by_cases e1 : u = .str r.w
      · rw [decide_eq_true e1] at hR1 ⊢
        rw [if_pos rfl]
        refine g_ixT tx1 (at_lit 1 rfl rfl) (g_inS hv tc ⟨_, rfl, ?_⟩)
        by_cases e2 : v ∈ r.can.map V.str
        · rw [decide_eq_true e2] at hR1 ⊢
          rw [if_pos rfl]
          exact g_ixT tx1 (at_lit 1 rfl rfl) (g_ne (sc_scal hv) hR1)
        · rw [decide_eq_false e2] at hR1 ⊢
          rw [if_neg (by decide)]
          exact hR1
      · rw [decide_eq_false e1] at hR1 ⊢
        rw [if_neg (by decide)]
        exact hR1
    · have e : moveB rs (.tup us) = false := by
        rcases us with _ | ⟨u, _ | ⟨v, _ | ⟨z, r⟩⟩⟩
        · rfl
        · rfl
        · simp at h2
        · rfl
      rw [decide_eq_false (fun c => h2 (by injection c with c; omega)), if_pos (by decide)]
      rw [e] at q
      exact q H (KT.refl _ _)
def spIsPlan (n : Nat) (L : List Addr) (P : Addr) : Sp := fun vs H Q _ => ∃ (rl : Addr) (t x : V) (rv : List V) (rs : List Rw) (tg : Tg), vs = [t, .ref rl, x] ∧ H rl = some (.lst rv) ∧ EI (RwAt H) rv rs ∧ TgAt n H x tg ∧ Tabs L H ∧ P ∈ L ∧ ∀ H', KT L H H' → Q (.bl (planB rs tg)) H'
theorem move_tup {rs : List Rw} {im : Im} (h : moveB rs im = true) : ∃ w v, im = .tup [.str w, v] ∧ ∃ r ∈ rs, r.w = w := by
  have no : ∀ {b : Bool}, b = true → b = false → False := fun h h' => by rw [h] at h'; exact Bool.noConfusion h'
  cases im with
  | sc v => exact (no h rfl).elim
  | lst _ => exact (no h rfl).elim
  | dic => exact (no h rfl).elim
  | tup us =>
    rcases us with _ | ⟨u, _ | ⟨v, _ | ⟨z, r⟩⟩⟩
    · exact (no h rfl).elim
    · exact (no h rfl).elim
    · obtain ⟨r, hr, hm⟩ := List.any_eq_true.mp (show rs.any (mvOf u v) = true from h)
      have : u = .str r.w := by
        unfold mvOf at hm
        rw [Bool.and_eq_true, decide_eq_true_eq] at hm
        exact hm.1
      exact ⟨r.w, v, by rw [this], r, hr, rfl⟩
    · exact (no h rfl).elim
theorem cut1 (xs : List V) : cutV xs (some 1) none = xs.drop 1 := by
  unfold cutV
  cases xs with
  | nil => simp
  | cons x r =>
    rw [show HT.sIx (x :: r).length (x :: r).length none = (x :: r).length from rfl, show HT.sIx (x :: r).length 0 (some 1) = min 1 (x :: r).length from HT.sIx_nat _ 0 1, List.length_cons, show min 1 (r.length + 1) = 1 by omega]
    simp
theorem rd_isPlan (K : PySem.W.Frag) {n : Nat} {L : List Addr} {P P' : Addr} (hn : n ≤ 1000) (hP' : P' ∈ L) : ∀ vs H Q E, spIsPlan n L P vs H Q E → run (t_is_plan K (spMove L P') P) (L2.start N_is_plan vs) H Q := by
  rintro _ H Q _ ⟨rl, t, x, rv, rs, tg, rfl, hr, er, hx, ht, hP, q⟩
  show run (t_is_plan K (spMove L P') P) [some t, some (.ref rl), some x, none, none, none, none] H Q
  unfold t_is_plan
  walk_at "sx"
  refine g_isLst hx ⟨_, rfl, ?_⟩
  cases tg with
  | sc v => exact q H (KT.refl _ _)
  | tup us => exact q H (KT.refl _ _)
  | dic => exact q H (KT.refl _ _)
  | lst is =>
    change if (!true) = true then _ else _
    rw [if_neg (by decide)]
    obtain ⟨⟨a, vs, rfl, hl, ei⟩, ln⟩ := hx
    refine e_genU.mpr ?_
    walk_at "sx"
    refine g_GE (RR := ImAt) (moveB rs) ht hP (.inl (lst_sq hl)) ei (fun H' x r h k => h.keep k.k (frT ht)) (fun i x im H1 R R0 hi k1 t1 hx hR => ?_) fun H1 k1 => ⟨_, rfl, ?_⟩
    · walk_at "sx"
      exact ⟨rl, x, rv, rs, im, rfl, k1.k _ _ (ht.lst hr) hr, er.mono fun _ _ h => h.kt ht k1, hx, t1, hP', fun H4 k4 => hR H4 k4⟩
    have ea : aaB false (moveB rs) is = is.all (moveB rs) := rfl
    rw [ea]
    cases hall : is.all (moveB rs) with
    | false =>
      have e : planB rs (.lst is) = false := by show (is.all (moveB rs) && incB (is.map headV)) = _; rw [hall]; rfl
      rw [if_pos (by decide)]
      rw [e] at q
      exact q H1 k1
    | true =>
      have e : planB rs (.lst is) = incB (is.map headV) := by show (is.all (moveB rs) && incB (is.map headV)) = _; rw [hall]; rfl
      rw [e] at q
      rw [if_neg (by decide)]
      have hl1 := k1.k _ _ (ht.lst hl) hl
      have ei1 := ims_keep ei k1.k (frT ht)
      have t1 := k1.t ht
      have hm : ∀ im ∈ is, ∃ w v, im = .tup [.str w, v] ∧ ∃ r ∈ rs, r.w = w := fun im hi => move_tup (List.all_eq_true.mp hall im hi)
      unfold t_is_plan_r1
      walk_at "sx"
      refine g_CE (RR := ImAt) (.inl hl1) ei1 (fun H H' x r h k => h.keep k fr0) (fun j H' acc => acc = (is.take j).map headV) (fun _ _ _ _ => rfl) ?_ ?_
      · rintro D j x im H2 acc R R0 nD hj k2 eD hx2 rfl hR _
        obtain ⟨w, v, rfl, _⟩ := hm im (List.mem_of_getElem? hj)
        obtain ⟨⟨b, rfl, tb⟩, _⟩ := hx2
        walk_at "sx"
        refine g_ixT tb (at_lit 0 rfl rfl) (hR _ _ (Keep.refl _ _) (by rw [List.length_map, List.length_take]; exact len_lt (by omega)) fun H5 _ => ?_)
        rw [List.take_succ, hj, List.map_append]
        rfl
      · rintro wl H2 acc nw k2 ew rfl
        rw [List.take_length] at ew
        walk_at "sx"
        refine g_slL (lst_sq ew) fun w2 H3 n3 k3 e3 => ?_
        rw [cut1] at e3
        walk_at "sx"
        refine g_CZL (k3 _ _ nin0 ew) e3 (by rw [List.length_drop]; omega) (fun j H' acc => ∃ bs : List Bool, acc = bs.map V.bl ∧ bs = ((((is.map headV).zip ((is.map headV).drop 1)).take j).map fun p => ltV p.1 p.2)) (fun _ _ _ _ => ⟨[], rfl, rfl⟩) ?_ ?_
        · rintro D j x y H4 acc R R0 T H5 nD hx hy k5 eD k45 ⟨bs, rfl, rfl⟩ eT hR _
          have hmem := List.mem_of_getElem? hx
          obtain ⟨im, hi, rfl⟩ := List.mem_map.mp hmem
          obtain ⟨w, v, rfl, _⟩ := hm im hi
          have hmem2 := List.mem_of_mem_drop (List.mem_of_getElem? hy)
          obtain ⟨im2, hi2, rfl⟩ := List.mem_map.mp hmem2
          obtain ⟨w2', v2, rfl, _⟩ := hm im2 hi2
          refine g_pair eT rfl ?_
          walk_at "sx"
          refine ⟨_, _, rfl, _, _, rfl, rfl, ?_⟩
          walk_at "sx"
          have hz : ((is.map headV).zip ((is.map headV).drop 1))[j]? = some (.str w, .str w2') := by
            rw [List.getElem?_zip_eq_some]
            exact ⟨hx, hy⟩
          refine ⟨w, w2', rfl, rfl, hR _ _ (Keep.refl _ _) (by rw [List.length_map, List.length_map, List.length_take, List.length_zip, List.length_map]; exact len_lt (by omega)) fun H6 _ => ⟨_, ?_, rfl⟩⟩
          rw [List.take_succ, hz, List.map_append, List.map_append]
          rfl
        · rintro D H4 acc nD k4 eD ⟨bs, rfl, rfl⟩
          refine ⟨D, _, rfl, lst_sq eD, ?_⟩
          have hfull : (((is.map headV).zip ((is.map headV).drop 1)).take ((is.map headV).drop 1).length) = (is.map headV).zip ((is.map headV).drop 1) := List.take_of_length_le (by rw [List.length_zip]; omega)
          rw [hfull, List.all_map]
          exact q H4 (k1.trans ((KT.of0 k2).trans ((KT.of0 k3).trans (KT.of0 k4))))

/-! ### the law -/
def mvD (m : Str × Str) : PyData := .tuple [.str m.1, .str m.2]
def rwD (r : Rw) : PyData := .tuple [.str r.w, .str r.p, .tuple (r.can.map .str)]
theorem dp_mvs {K : PySem.W.Frag} {H : Hp} : ∀ {vs : List V} {ms : List (Str × Str)}, EI (MvAt H) vs ms → DpAll K H vs (ms.map mvD)
  | _, _, .nil => .nil
  | _, _, .cons ⟨p, e, t⟩ q => by
    subst e
    exact .cons (.tup t.sq (.cons (.str _) (.cons (.str _) .nil))) (dp_mvs q)
theorem dp_rws {K : PySem.W.Frag} {H : Hp} : ∀ {vs : List V} {rs : List Rw}, EI (RwAt H) vs rs → DpAll K H vs (rs.map rwD)
  | _, _, .nil => .nil
  | _, _, .cons (b := r) ⟨p, ct, e, t, u⟩ q => by
    subst e
    exact .cons (.tup t.sq (.cons (.str _) (.cons (.str _) (.cons (.tup u.sq (dp_strsN r.can)) .nil)))) (dp_rws q)
theorem lay_mvs : ∀ {ms : List (Str × Str)}, (∀ m ∈ ms, NmS 30 m.1 ∧ NmS 30 m.2) → PyData.canLayAll0 (ms.map mvD) = true ∧ PyData.depthAll (ms.map mvD) ≤ 3
  | [], _ => by simp [PyData.canLayAll0, PyData.depthAll]
  | m :: ms, h => by
    obtain ⟨h1, h2⟩ := lay_mvs fun d hd => h d (List.mem_cons_of_mem _ hd)
    obtain ⟨n1, n2⟩ := h m List.mem_cons_self
    have e1 := str_ok n1
    have e2 := str_ok n2
    simp [PyData.canLayAll0, PyData.depthAll, mvD, PyData.canLay0, PyData.depth, e1, e2, h1] at *
    omega
theorem lay_rws : ∀ {rs : List Rw}, (∀ r ∈ rs, NmS 30 r.w ∧ NmS 30 r.p ∧ ∀ s ∈ r.can, NmS 30 s) → PyData.canLayAll0 (rs.map rwD) = true ∧ PyData.depthAll (rs.map rwD) ≤ 3
  | [], _ => by simp [PyData.canLayAll0, PyData.depthAll]
  | r :: rs, h => by
    obtain ⟨h1, h2⟩ := lay_rws fun d hd => h d (List.mem_cons_of_mem _ hd)
    obtain ⟨n1, n2, n3⟩ := h r List.mem_cons_self
    have e1 := str_ok n1
    have e2 := str_ok n2
    obtain ⟨e3, e4⟩ := lay_strs n3
    simp [PyData.canLayAll0, PyData.depthAll, rwD, PyData.canLay0, PyData.depth, e1, e2, e3, h1] at *
    omega
theorem rws_keepP {H H' : Hp} {d c : Addr} {n : Nat} {vs : List V} {rs : List Rw} (h : EI (RwAt H) vs rs) (p : PenOk H d c n) (k : Keep [d] H H') : EI (RwAt H') vs rs := rws_keep h k p.noTup
/-! ### the law's own reading of plans -/
def restB (rs : List Rw) : V → List Im → Bool
  | _, [] => true
  | a, im :: r => moveB rs im && (ltV a (headV im) && restB rs (headV im) r)
theorem rest_all (rs : List Rw) : ∀ (is : List Im) (a : V), restB rs a is = (is.all (moveB rs) && ((a :: is.map headV).zip (is.map headV)).all fun p => ltV p.1 p.2)
  | [], a => rfl
  | im :: r, a => by
    show (moveB rs im && (ltV a (headV im) && restB rs (headV im) r)) = _
    rw [rest_all rs r (headV im)]
    simp only [List.all_cons, List.map_cons, List.zip_cons_cons]
    cases moveB rs im <;> cases ltV a (headV im) <;> simp
theorem lt_empty {w : Str} (h : 1 ≤ w.length) : ltV (.str "") (.str w) = true := by
  show decide (([] : List Nat) < w.cps.toList) = true
  have e : w.cps.toList ≠ [] := fun z => by
    rw [cl_len] at h
    unfold cl at h
    rw [z] at h
    simp at h
  cases hw : w.cps.toList with
  | nil => exact (e hw).elim
  | cons c r => exact decide_eq_true (List.nil_lt_cons _ _)
theorem plan_rest {rs : List Rw} (ne : ∀ r ∈ rs, 1 ≤ r.w.length) (is : List Im) : planB rs (.lst is) = restB rs (.str "") is := by
  rw [rest_all]
  show (is.all (moveB rs) && incB (is.map headV)) = _
  cases h : is.all (moveB rs) with
  | false => rfl
  | true =>
    rw [Bool.true_and, Bool.true_and]
    cases is with
    | nil => rfl
    | cons im r =>
      obtain ⟨w, v, e, x, hx, hw⟩ := move_tup (List.all_eq_true.mp h im List.mem_cons_self)
      have e2 : headV im = .str w := by rw [e]; rfl
      have e3 := lt_empty (hw ▸ ne x hx)
      show incB (headV im :: r.map headV) = (ltV (.str "") (headV im) && (((headV im :: r.map headV).zip (r.map headV)).all fun p => ltV p.1 p.2))
      rw [show ltV (.str "") (headV im) = true by rw [e2]; exact e3, Bool.true_and]
      rfl
theorem any_first {x : Str} {v : V} : ∀ {rs : List Rw}, (rs.map Rw.w).Nodup → rs.any (mvOf (.str x) v) = match rs.filter (fun r => decide (r.w = x)) with
    | [] => false
    | r :: _ => decide (v ∈ r.can.map V.str) && !decide (v = .str r.p)
  | [], _ => rfl
  | r :: rs, nd => by
    rw [List.map_cons, List.nodup_cons] at nd
    rw [List.any_cons, any_first nd.2]
    by_cases e : r.w = x
    · have e0 : rs.filter (fun r => decide (r.w = x)) = [] := by
        rw [List.filter_eq_nil_iff]
        intro u hu
        simp only [decide_eq_true_eq]
        intro c
        exact nd.1 (List.mem_map.mpr ⟨u, hu, c.trans e.symm⟩)
      rw [List.filter_cons, if_pos (by simpa using e), e0]
      unfold mvOf
      rw [decide_eq_true (by rw [e])]
      simp
    · rw [List.filter_cons, if_neg (by simpa using e)]
      unfold mvOf
      rw [decide_eq_false (fun c => e (by injection c with c; exact c.symm))]
      simp
theorem move_strs {rs : List Rw} {u v : V} (h : (strB u && strB v) = false) : moveB rs (.tup [u, v]) = false := by
  cases hm : moveB rs (.tup [u, v]) with
  | false => rfl
  | true =>
    obtain ⟨r, hr, hm⟩ := List.any_eq_true.mp (show rs.any (mvOf u v) = true from hm)
    unfold mvOf at hm
    rw [Bool.and_eq_true, Bool.and_eq_true, decide_eq_true_eq, decide_eq_true_eq] at hm
    obtain ⟨e1, e2, _⟩ := hm
    obtain ⟨s, _, e3⟩ := List.mem_map.mp e2
    rw [e1, ← e3] at h
    exact h
theorem eq_nilD {K : PySem.W.Frag} {H : Hp} {a b : Addr} {xs : List V} {ds : List PyData} {Q : VK} (h : H a = some (.lst xs)) (d : DpAll K H xs ds) (c : PyData.canLayAll0 ds = true) (l : PyData.depthAll ds ≤ 4) (e : H b = some (.lst [])) (q : Q (.bl ds.isEmpty) H) : uEq K false (.ref a) (.ref b) H Q := by
  refine .inr ⟨_, _, .lst (lst_sq h) d, .lst (lst_sq e) .nil, shaped_list c l, by decide +kernel, ?_⟩
  rw [if_neg (by decide)]
  cases ds with
  | nil => exact q
  | cons y ys => exact q
theorem rsok_nm {T : Tn} {rs : List Rw} (ok : TwOk T) (rok : RsOk T rs) : ∀ r ∈ rs, NmS 30 r.w ∧ NmS 30 r.p ∧ ∀ s ∈ r.can, NmS 30 s := fun r hr => ⟨rok.nm r hr, ok.nm _ (rok.p r hr), fun s hs => ok.nm _ ((rok.c r hr).2 s hs)⟩
def spLPlan (n : Nat) : Sp := fun vs H Q _ => ∃ (rl : Addr) (x : V) (rv : List V) (rs : List Rw) (T : Tn) (tg : Tg), vs = [.ref rl, x] ∧ H rl = some (.lst rv) ∧ EI (RwAt H) rv rs ∧ TwOk T ∧ RsOk T rs ∧ TgAt n H x tg ∧ ∀ H', Keep [] H H' → Q (.bl (planB rs tg)) H'
theorem rd_lPlan (K : PySem.W.Frag) {n : Nat} (hn : n ≤ 1000) : ∀ vs H Q E, spLPlan n vs H Q E → run (t__law_is_plan K) (L2.start N__law_is_plan vs) H Q := by
  rintro _ H Q _ ⟨rl, x, rv, rs, T, tg, rfl, hr, er, ok, rok, hx, q⟩
  show run (t__law_is_plan K) [some (.ref rl), some x, none, none, none, none, none] H Q
  unfold t__law_is_plan
  walk_at "sx"
  refine g_isLst hx ⟨_, rfl, ?_⟩
  cases tg with
  | sc v => exact q H (Keep.refl _ _)
  | tup us => exact q H (Keep.refl _ _)
  | dic => exact q H (Keep.refl _ _)
  | lst is =>
    change if (!true) = true then _ else _
    rw [if_neg (by decide)]
    obtain ⟨⟨a, vs, rfl, hl, ei⟩, ln⟩ := hx
    rw [plan_rest rok.ne] at q
    unfold t__law_is_plan_r4
    walk_at "sx"
    refine g_FEs (RR := ImAt) [] (.inl hl) nin0 ei (fun H' x r h k => h.keep k fr0) (fun j σ H' => ∃ (ah : Str) (y3 y4 : Option V), σ = [some (.ref rl), some (.ref a), some (.str ah), y3, y4, none, none] ∧ restB rs (.str "") is = restB rs (.str ah) (is.drop j)) ⟨"", none, none, rfl, rfl⟩ ?_ ?_
    · rintro j x im σ H2 hj k2 hx2 ⟨ah, y3, y4, rfl, hB⟩
      have hdj : is.drop j = im :: is.drop (j + 1) := by
        obtain ⟨hlt, e⟩ := List.getElem?_eq_some_iff.mp hj
        rw [List.drop_eq_getElem_cons hlt, e]
      rw [hdj] at hB
      have bad : (moveB rs im = false ∨ ltV (.str ah) (headV im) = false) → ∀ H', Keep [] H2 H' → Q (.bl false) H' := fun hb H' k' => by
        have : restB rs (.str "") is = false := by
          rw [hB]
          show (moveB rs im && (ltV (.str ah) (headV im) && restB rs (headV im) (is.drop (j + 1)))) = false
          rcases hb with h | h <;> rw [h] <;> simp
        rw [← this]
        exact q H' (k2.trans k')
      walk_at "sx"
      unfold t__law_is_plan_b1
      walk_at "sx"
      refine g_isTup hx2 ⟨_, rfl, ?_⟩
      cases im with
      | sc v => exact bad (.inl rfl) H2 (Keep.refl _ _)
      | lst us => exact bad (.inl rfl) H2 (Keep.refl _ _)
      | dic => exact bad (.inl rfl) H2 (Keep.refl _ _)
      | tup us =>
        change if (!true) = true then _ else _
        rw [if_neg (by decide)]
        obtain ⟨⟨b, rfl, tx⟩, oks, l3⟩ := hx2
        refine g_lenT tx (g_ne rfl ⟨_, rfl, ?_⟩)
        by_cases h2 : us.length = 2
        · obtain ⟨u, v, rfl⟩ : ∃ u v, us = [u, v] := by
            rcases us with _ | ⟨u, _ | ⟨v, _ | ⟨z, r⟩⟩⟩
            · simp at h2
            · simp at h2
            · exact ⟨u, v, rfl⟩
            · simp at h2
          rw [decide_eq_true (by simp), if_neg (by decide)]
          have hu := oks u (by simp)
          have hv := oks v (by simp)
          refine g_CE (RR := fun _ (x : V) (r : V) => x = r ∧ scOk r) (rs := [u, v]) (.inr tx) (.cons ⟨rfl, hu⟩ (.cons ⟨rfl, hv⟩ .nil)) (fun _ _ _ _ h _ => h) (fun i H' acc => acc = (([u, v].take i).map strB).map V.bl) (fun _ _ _ _ => rfl) ?_ ?_
          · rintro D i _ y H4 acc R R0 nD hi k4 eD ⟨rfl, hy⟩ rfl hR _
            walk_at "sx"
            refine g_isStr hy (hR _ _ (Keep.refl _ _) (by rw [List.length_map, List.length_map, List.length_take]; exact len_lt (by simp; omega)) fun H5 _ => ?_)
            rw [List.take_succ, hi, List.map_append, List.map_append]
            rfl
          · rintro D H4 acc nD k4 eD rfl
            refine ⟨D, [strB u, strB v], rfl, lst_sq eD, ⟨_, rfl, ?_⟩⟩
            have eA : ([strB u, strB v].all id) = (strB u && strB v) := by simp
            rw [eA]
            cases hb : (strB u && strB v) with
            | false => exact bad (.inl (move_strs hb)) H4 k4
            | true =>
              rw [if_neg (by decide)]
              rw [Bool.and_eq_true] at hb
              obtain ⟨x, rfl⟩ : ∃ x, u = .str x := by
                cases u with
                | str x => exact ⟨x, rfl⟩
                | _ => exact Bool.noConfusion hb.1
              obtain ⟨y, rfl⟩ : ∃ y, v = .str y := by
                cases v with
                | str x => exact ⟨x, rfl⟩
                | _ => exact Bool.noConfusion hb.2
              have k24 := k2.trans k4
              have tx4 := tx.keep k4 nin0
              have er4 := rws_keep er k24 noTup0
              unfold t__law_is_plan_r2
              walk_at "sx"
              refine g_CE (RR := RwAt) (.inl (k24 _ _ nin0 hr)) er4 (fun H H' x r h k => h.keep k noTup0) (fun i H' acc => EI (RwAt H') acc ((rs.take i).filter fun r => decide (r.w = x))) (fun _ _ _ _ => .nil) ?_ ?_
              · rintro D2 i z r H5 acc R R0 nD2 hi k5 eD2 hz hacc hR hR0
                have nx := flt_next (p := fun r : Rw => decide (r.w = x)) hi
                have hln := flt_len (p := fun r : Rw => decide (r.w = x)) (l := rs) (i := i)
                have r5 := rok.l
                obtain ⟨p, ct, rfl, tp, tc⟩ := hz
                walk_at "sx"
                refine g_ixT tp (at_lit 0 rfl rfl) (g_ixT (tx4.keep k5 nin0) (at_lit 0 rfl rfl) (g_eq rfl ⟨_, rfl, ?_⟩))
                rw [dec_strN]
                by_cases e : r.w = x
                · rw [decide_eq_true e, if_pos rfl]
                  rw [if_pos (by simpa using e)] at nx
                  refine hR _ _ (Keep.refl _ _) (by rw [hacc.length]; exact len_lt (by omega)) fun H6 k6 => ?_
                  have nt : NoTup [D2] H5 := noTup1 eD2
                  rw [nx]
                  exact ei_snoc (R := RwAt H6) ⟨p, ct, rfl, tp.keep k6 (nt _ _ tp), tc.keep k6 (nt _ _ tc)⟩ (rws_keep hacc k6 nt)
                · rw [decide_eq_false e, if_neg (by decide)]
                  rw [if_neg (by simpa using e), List.append_nil] at nx
                  refine hR0 _ (Keep.refl _ _) ?_
                  rw [nx]
                  exact hacc
              rintro so H5 acc nso k5 es hacc
              rw [List.take_length] at hacc
              have hmv : moveB rs (.tup [.str x, .str y]) = _ := any_first (x := x) (v := .str y) rok.nd
              have hfm : ∀ r ∈ rs.filter (fun r => decide (r.w = x)), r ∈ rs := fun r h => (List.mem_filter.mp h).1
              generalize rs.filter (fun r => decide (r.w = x)) = fs at hacc hmv hfm
              walk_at "sx"
              refine ⟨by walk_at "sz", fun e0 H6 n6 k6 e6 => ?_⟩
              obtain ⟨c1, c2⟩ := lay_rws (rs := fs) fun r h => rsok_nm ok rok r (hfm r h)
              have hacc6 := rws_keep hacc k6 noTup0
              have k46 := k5.trans k6
              have tx6 := tx4.keep k46 nin0
              have es6 := k6 _ _ nin0 es
              refine eq_nilD es6 (dp_rws hacc6) c1 (by omega) e6 ⟨_, rfl, ?_⟩
              cases hacc6 with
              | nil => exact bad (.inl hmv) H6 (k4.trans k46)
              | cons h1 h2 =>
                rename_i z r zs fs'
                obtain ⟨p, ct, rfl, tp, tc⟩ := h1
                change if false = true then _ else _
                rw [if_neg (by decide)]
                have hm2 : moveB rs (.tup [.str x, .str y]) = (decide (V.str y ∈ r.can.map V.str) && !decide (V.str y = .str r.p)) := hmv
                refine g_ixT tx6 (at_lit 1 rfl rfl) (g_ixL es6 (at_lit 0 rfl rfl) (g_ixT tp (at_lit 2 rfl rfl) (g_ninS hv tc ⟨_, rfl, ?_⟩)))
                by_cases i1 : V.str y ∈ r.can.map V.str
                · rw [decide_eq_true i1] at hm2 ⊢
                  rw [if_neg (by decide)]
                  refine g_ixT tx6 (at_lit 1 rfl rfl) (g_ixL es6 (at_lit 0 rfl rfl) (g_ixT tp (at_lit 1 rfl rfl) (g_eq rfl ⟨_, rfl, ?_⟩)))
                  by_cases i2 : V.str y = .str r.p
                  · rw [decide_eq_true i2] at hm2 ⊢
                    rw [if_pos rfl]
                    exact bad (.inl hm2) H6 (k4.trans k46)
                  · rw [decide_eq_false i2] at hm2 ⊢
                    rw [if_neg (by decide)]
                    refine g_ixT tx6 (at_lit 0 rfl rfl) ⟨ah, x, rfl, rfl, ⟨_, rfl, ?_⟩⟩
                    have hm3 : moveB rs (.tup [.str x, .str y]) = true := hm2
                    cases hlt : decide (ah.cps.toList < x.cps.toList) with
                    | false => exact bad (.inr hlt) H6 (k4.trans k46)
                    | true =>
                      rw [if_neg (by decide)]
                      unfold t__law_is_plan_r1
                      walk_at "sx"
                      refine g_ixT tx6 (at_lit 0 rfl rfl) ⟨k2.trans (k4.trans k46), x, _, _, rfl, ?_⟩
                      rw [hB]
                      show (moveB rs (.tup [.str x, .str y]) && (decide (ah.cps.toList < x.cps.toList) && restB rs (.str x) (is.drop (j + 1)))) = _
                      rw [hm3, hlt, Bool.true_and, Bool.true_and]
                · rw [decide_eq_false i1] at hm2 ⊢
                  rw [if_pos (by decide)]
                  exact bad (.inl hm2) H6 (k4.trans k46)
        · rw [decide_eq_false (fun c => h2 (by injection c with c; omega)), if_pos (by decide)]
          refine bad (.inl ?_) H2 (Keep.refl _ _)
          rcases us with _ | ⟨u, _ | ⟨v, _ | ⟨z, r⟩⟩⟩
          · rfl
          · rfl
          · simp at h2
          · rfl
    · rintro σ H2 k2 ⟨ah, y3, y4, rfl, hB⟩
      unfold t__law_is_plan_r3
      walk_at "sx"
      rw [hB, List.drop_length] at q
      exact q H2 k2

/-! ### are these moves; what is bent -/
def isMv : Im → Bool
  | .tup [u, v] => strB u && strB v
  | _ => false
def movesB : Tg → Bool
  | .lst is => is.all isMv
  | _ => false
def is2 : Im → Bool
  | .tup us => decide (us.length = 2)
  | _ => false
theorem isMv_2 {im : Im} (h : isMv im = true) : is2 im = true := by
  have no : ∀ {b : Bool}, b = true → b = false → False := fun h h' => by rw [h] at h'; exact Bool.noConfusion h'
  cases im with
  | sc v => exact (no h rfl).elim
  | lst _ => exact (no h rfl).elim
  | dic => exact (no h rfl).elim
  | tup us =>
    rcases us with _ | ⟨u, _ | ⟨v, _ | ⟨z, r⟩⟩⟩
    · exact (no h rfl).elim
    · exact (no h rfl).elim
    · exact decide_eq_true (show [u, v].length = 2 from rfl)
    · exact (no h rfl).elim
def spAre (n : Nat) : Sp := fun vs H Q _ => ∃ (x : V) (tg : Tg), vs = [x] ∧ TgAt n H x tg ∧ ∀ H', Keep [] H H' → Q (.bl (movesB tg)) H'
theorem rd_are (K : PySem.W.Frag) {n : Nat} (hn : n ≤ 1000) : ∀ vs H Q E, spAre n vs H Q E → run (t__law_are_moves K) (L2.start N__law_are_moves vs) H Q := by
  rintro _ H Q _ ⟨x, tg, rfl, hx, q⟩
  show run (t__law_are_moves K) [some x, none] H Q
  unfold t__law_are_moves
  walk_at "sx"
  refine g_isLst hx ⟨_, rfl, ?_⟩
  cases tg with
  | sc v => exact q H (Keep.refl _ _)
  | tup us => exact q H (Keep.refl _ _)
  | dic => exact q H (Keep.refl _ _)
  | lst is =>
    change if (!true) = true then _ else _
    rw [if_neg (by decide)]
    obtain ⟨⟨a, vs, rfl, hl, ei⟩, ln⟩ := hx
    refine g_CE (RR := ImAt) (.inl hl) ei (fun H H' x r h k => h.keep k fr0) (fun j H' acc => acc = ((is.take j).map is2).map V.bl) (fun _ _ _ _ => rfl) ?_ ?_
    · rintro D j x im H2 acc R R0 nD hj k2 eD hx2 rfl hR _
      have fin : ∀ b, b = is2 im → R (.bl b) H2 := fun b hb => hR _ _ (Keep.refl _ _) (by rw [List.length_map, List.length_map, List.length_take]; exact len_lt (by omega)) fun H5 _ => by
        rw [List.take_succ, hj, List.map_append, List.map_append, hb]
        rfl
      walk_at "sx"
      refine g_isTup hx2 ⟨_, rfl, ?_⟩
      cases im with
      | sc v => exact fin _ rfl
      | lst us => exact fin _ rfl
      | dic => exact fin _ rfl
      | tup us =>
        change if true = true then _ else _
        rw [if_pos rfl]
        obtain ⟨⟨b, rfl, tx⟩, oks, l3⟩ := hx2
        refine g_lenT tx (g_eq rfl (fin _ ?_))
        show _ = decide (us.length = 2)
        rw [decide_eq_decide]
        exact ⟨fun c => by injection c with c; omega, fun c => by rw [c]; rfl⟩
    · rintro D H2 acc nD k2 eD rfl
      rw [List.take_length] at eD
      refine ⟨D, _, rfl, lst_sq eD, ⟨_, rfl, ?_⟩⟩
      rw [List.all_map]
      show if (!is.all is2) = true then _ else _
      cases h2 : is.all is2 with
      | false =>
        rw [if_pos (by decide)]
        have e : movesB (.lst is) = false := by
          cases hm : movesB (.lst is) with
          | false => rfl
          | true =>
            have : is.all is2 = true := List.all_eq_true.mpr fun im hi => isMv_2 (List.all_eq_true.mp (show is.all isMv = true from hm) im hi)
            rw [h2] at this
            exact Bool.noConfusion this
        rw [e] at q
        exact q H2 k2
      | true =>
        rw [if_neg (by decide)]
        have hl2 := k2 _ _ nin0 hl
        have ei2 := ims_keep ei k2 fr0
        unfold t__law_are_moves_r1
        walk_at "sx"
        refine g_CE (RR := ImAt) (.inl hl2) ei2 (fun H H' x r h k => h.keep k fr0) (fun j H' acc => acc = ((is.take j).map isMv).map V.bl) (fun _ _ _ _ => rfl) ?_ ?_
        · rintro D j x im H3 acc R R0 nD hj k3 eD hx2 rfl hR _
          have i2 := List.all_eq_true.mp h2 im (List.mem_of_getElem? hj)
          have fin : ∀ b, b = isMv im → R (.bl b) H3 := fun b hb => hR _ _ (Keep.refl _ _) (by rw [List.length_map, List.length_map, List.length_take]; exact len_lt (by omega)) fun H5 _ => by
            rw [List.take_succ, hj, List.map_append, List.map_append, hb]
            rfl
          cases im with
          | sc v => exact Bool.noConfusion i2
          | lst us => exact Bool.noConfusion i2
          | dic => exact Bool.noConfusion i2
          | tup us =>
            have l2 : us.length = 2 := of_decide_eq_true i2
            obtain ⟨u, v, rfl⟩ : ∃ u v, us = [u, v] := by
              rcases us with _ | ⟨u, _ | ⟨v, _ | ⟨z, r⟩⟩⟩
              · simp at l2
              · simp at l2
              · exact ⟨u, v, rfl⟩
              · simp at l2
            obtain ⟨⟨b, rfl, tx⟩, oks, l3⟩ := hx2
            walk_at "sx"
            refine g_ixT tx (at_lit 0 rfl rfl) (g_isStr (oks u (by simp)) ⟨_, rfl, ?_⟩)
            cases hs : strB u with
            | false =>
              rw [if_neg (by decide)]
              exact fin _ (by show false = (strB u && strB v); rw [hs]; rfl)
            | true =>
              rw [if_pos rfl]
              exact g_ixT tx (at_lit 1 rfl rfl) (g_isStr (oks v (by simp)) (fin _ (by show strB v = (strB u && strB v); rw [hs]; rfl)))
        · rintro D H3 acc nD k3 eD rfl
          rw [List.take_length] at eD
          refine ⟨D, _, rfl, lst_sq eD, ?_⟩
          rw [List.all_map]
          exact q H3 (k2.trans k3)

/-! ### lists of things, cut and joined -/
def LI (n : Nat) (M : Bool) (H : Hp) (a : Addr) : Prop := ∃ vs is, H a = some (.lst vs) ∧ EI (ImAt H) vs is ∧ is.length ≤ n ∧ (M = true → ∀ im ∈ is, isMv im = true)
theorem LI.keep {n : Nat} {M : Bool} {S : List Addr} {H H' : Hp} {a : Addr} (h : LI n M H a) (k : Keep S H H') (f : Fr0 S H) : LI n M H' a := let ⟨vs, is, e, ei, r⟩ := h; ⟨vs, is, k _ _ (f.l _ _ e) e, ims_keep ei k f, r⟩
theorem LI.more {n m : Nat} {M : Bool} {H : Hp} {a : Addr} (h : LI n M H a) (l : n ≤ m) : LI m M H a := let ⟨vs, is, e, ei, r, t⟩ := h; ⟨vs, is, e, ei, Nat.le_trans r l, t⟩
theorem LI.any {n : Nat} {M : Bool} {H : Hp} {a : Addr} (h : LI n M H a) : LI n false H a := let ⟨vs, is, e, ei, r, _⟩ := h; ⟨vs, is, e, ei, r, fun z => Bool.noConfusion z⟩
theorem LI.tg {n : Nat} {M : Bool} {H : Hp} {a : Addr} (h : LI n M H a) : ∃ tg, TgAt n H (.ref a) tg := let ⟨vs, is, e, ei, r, _⟩ := h; ⟨.lst is, ⟨a, vs, rfl, e, ei⟩, r⟩
theorem ei_take {α β : Type} {R : α → β → Prop} : ∀ (k : Nat) {vs : List α} {rs : List β}, EI R vs rs → EI R (vs.take k) (rs.take k)
  | 0, _, _, _ => .nil
  | _ + 1, _, _, .nil => .nil
  | k + 1, _, _, .cons h q => .cons h (ei_take k q)
theorem ei_drop {α β : Type} {R : α → β → Prop} : ∀ (k : Nat) {vs : List α} {rs : List β}, EI R vs rs → EI R (vs.drop k) (rs.drop k)
  | 0, _, _, h => h
  | _ + 1, _, _, .nil => .nil
  | k + 1, _, _, .cons _ q => ei_drop k q
theorem ei_app {α β : Type} {R : α → β → Prop} : ∀ {vs ws : List α} {rs ss : List β}, EI R vs rs → EI R ws ss → EI R (vs ++ ws) (rs ++ ss)
  | _, _, _, _, .nil, h => h
  | _, _, _, _, .cons h q, h' => .cons h (ei_app q h')
theorem ei_rev {α β : Type} {R : α → β → Prop} : ∀ {vs : List α} {rs : List β}, EI R vs rs → EI R vs.reverse rs.reverse
  | _, _, .nil => .nil
  | _, _, .cons h q => by
    rw [List.reverse_cons, List.reverse_cons]
    exact ei_snoc h (ei_rev q)
section
variable {K : PySem.W.Frag} {H : Hp} {Q : VK} {n m : Nat} {M : Bool} {a b : Addr}
theorem li_sl {lo hi : Option Int} (h : LI n M H a) (q : ∀ p H', H p = none → Keep [] H H' → LI n M H' p → Q (.ref p) H') : uSl K (.ref a) lo hi H Q := by
  obtain ⟨vs, is, e, ei, l, hm⟩ := h
  refine g_slL (lst_sq e) fun p H' np k e' => q p H' np k ⟨_, (is.drop (HT.sIx vs.length 0 lo)).take (HT.sIx vs.length vs.length hi - HT.sIx vs.length 0 lo), e', ei_take _ (ei_drop _ (ims_keep ei k fr0)), ?_, fun z im hi => hm z im (List.mem_of_mem_drop (List.mem_of_mem_take hi))⟩
  rw [List.length_take, List.length_drop]
  omega
theorem li_add (h : LI n M H a) (h' : LI m M H b) (l : n + m ≤ 1000) (q : ∀ p H', H p = none → Keep [] H H' → LI (n + m) M H' p → Q (.ref p) H') : uAdd K (.ref a) (.ref b) H Q := by
  obtain ⟨vs, is, e, ei, ln, hm⟩ := h
  obtain ⟨ws, js, e', ei', ln', hm'⟩ := h'
  have l1 := ei.length
  have l2 := ei'.length
  refine g_addL e e' (len_le (by omega)) fun p H' np k e2 => q p H' np k ⟨_, is ++ js, e2, ei_app (ims_keep ei k fr0) (ims_keep ei' k fr0), by rw [List.length_append]; omega, fun z im hi => (List.mem_append.mp hi).elim (hm z im) (hm' z im)⟩
theorem li_one {x : V} {im : Im} (h : ImAt H x im) (hm : M = true → isMv im = true) (q : ∀ p H', H p = none → Keep [] H H' → LI 1 M H' p → Q (.ref p) H') : [x].length ≤ sizeLine ∧ Mk H (.lst [x]) Q :=
  ⟨len_le (by simp), fun p H' np k e => q p H' np k ⟨_, [im], e, .cons (h.keep k fr0) .nil, by simp, fun z i hi => by rw [List.mem_singleton.mp hi]; exact hm z⟩⟩
def MvOk (H : Hp) (x : V) (m : Str × Str) : Prop := MvAt H x m ∧ NmS 60 m.1 ∧ NmS 60 m.2
theorem mv_of : ∀ {vs : List V} {is : List Im}, EI (ImAt H) vs is → (∀ im ∈ is, isMv im = true) → ∃ ms, EI (MvOk H) vs ms ∧ ms.length = is.length
  | _, _, .nil, _ => ⟨[], .nil, rfl⟩
  | _, _, .cons (b := im) h q, hm => by
    obtain ⟨ms, e, l⟩ := mv_of q fun i hi => hm i (List.mem_cons_of_mem _ hi)
    have h1 := hm im List.mem_cons_self
    have no : ∀ {b : Bool}, b = true → b = false → False := fun h h' => by rw [h] at h'; exact Bool.noConfusion h'
    cases im with
    | sc v => exact (no h1 rfl).elim
    | lst _ => exact (no h1 rfl).elim
    | dic => exact (no h1 rfl).elim
    | tup us =>
      rcases us with _ | ⟨u, _ | ⟨v, _ | ⟨z, r⟩⟩⟩
      · exact (no h1 rfl).elim
      · exact (no h1 rfl).elim
      · have hb : (strB u && strB v) = true := h1
        rw [Bool.and_eq_true] at hb
        obtain ⟨⟨p, rfl, t⟩, oks, _⟩ := h
        have o1 := oks u (by simp)
        have o2 := oks v (by simp)
        cases u with
        | str x =>
          cases v with
          | str y => exact ⟨(x, y) :: ms, .cons ⟨⟨p, rfl, t⟩, o1, o2⟩ e, by rw [List.length_cons, List.length_cons, l]⟩
          | _ => exact Bool.noConfusion hb.2
        | _ => exact Bool.noConfusion hb.1
      · exact (no h1 rfl).elim
theorem im_of {x : V} {m : Str × Str} (h : MvOk H x m) : ImAt H x (.tup [.str m.1, .str m.2]) := by
  obtain ⟨⟨p, rfl, t⟩, h1, h2⟩ := h
  refine ⟨⟨p, rfl, t⟩, fun u hu => ?_, by simp⟩
  rcases List.mem_cons.mp hu with rfl | hu
  · exact h1
  · rw [List.mem_singleton.mp hu]; exact h2
theorem ims_of : ∀ {vs : List V} {ms : List (Str × Str)}, EI (MvOk H) vs ms → EI (ImAt H) vs (ms.map fun m => .tup [.str m.1, .str m.2])
  | _, _, .nil => .nil
  | _, _, .cons h q => .cons (im_of h) (ims_of q)
theorem MvOk.keep {S : List Addr} {H H' : Hp} {x : V} {m : Str × Str} (h : MvOk H x m) (k : Keep S H H') (n : NoTup S H) : MvOk H' x m := ⟨h.1.keep k n, h.2⟩
theorem li_sort (h : LI n true H a) (hn : n ≤ 1000) (q : ∀ p H', H p = none → Keep [] H H' → LI n true H' p → Q (.ref p) H') : uSorted K [.ref a] H Q := by
  obtain ⟨vs, is, e, ei, l, hm⟩ := h
  obtain ⟨ms, em, lm⟩ := mv_of ei (hm rfl)
  refine ⟨Str × Str, MvOk H, mvD, a, vs, ms, rfl, lst_sq e, em, fun x r h => ?_, PySem.W.AllAlike.of fun _ _ => ?_, PySem.W.Sortable.tuples fun b => ⟨_, _, rfl⟩, fun r _ => by simp [mvD, PyData.depth, PyData.depthAll], fun ys ly ey p H' np k e' => ?_⟩
  · obtain ⟨⟨p, rfl, t⟩, _⟩ := h
    exact .tup t.sq (.cons (.str _) (.cons (.str _) .nil))
  · rfl
  · refine q p H' np k ⟨ys, _, e', ims_of (ey.mono fun _ _ h => h.keep k noTup0), ?_, fun _ im hi => ?_⟩
    · rw [List.length_map, List.length_mergeSort]
      omega
    · obtain ⟨m, _, rfl⟩ := List.mem_map.mp hi
      rfl
theorem li_rev {te : TE} {σ : L2.St} (h : LI n M H a) (hte : ∀ R : VK, R (.ref a) H → te σ H R) (q : ∀ p H', H p = none → Keep [] H H' → LI n M H' p → Q (.ref p) H') : tRevL K te σ H Q := by
  obtain ⟨vs, is, e, ei, l, hm⟩ := h
  have k : ∀ p, H p = none → Keep [] H (upd H p (.lst vs.reverse)) := fun p np => Keep.new np
  exact hte _ ⟨a, vs, rfl, lst_sq e, fun p np => q p _ np (k p np) ⟨_, is.reverse, upd_same, ei_rev (ims_keep ei (k p np) fr0), by rw [List.length_reverse]; exact l, fun z im hi => hm z im (List.mem_reverse.mp hi)⟩⟩
theorem li_tuple (h : LI n M H a) (q : ∀ v H' tg, Keep [] H H' → TgAt n H' v tg → Q v H') : uTuple K [.ref a] H Q := by
  obtain ⟨vs, is, e, ei, l, hm⟩ := h
  exact g_tupleL e fun p H' np k t => q _ H' (.tup is) k ⟨⟨p, vs, rfl, t, ims_keep ei k fr0⟩, l⟩
end
theorem TgAt.more {n m : Nat} {H : Hp} {x : V} {tg : Tg} (h : TgAt n H x tg) (l : n ≤ m) : TgAt m H x tg := by
  cases tg with
  | sc v => exact h
  | tup us => exact ⟨h.1, Nat.le_trans h.2 l⟩
  | lst us => exact ⟨h.1, Nat.le_trans h.2 l⟩
  | dic => exact h
theorem Im.tg {H : Hp} {x : V} {im : Im} (h : ImAt H x im) : ∃ tg, TgAt 3 H x tg := by
  have sc : ∀ us : List V, (∀ u ∈ us, scOk u) → EI (ImAt H) us (us.map Im.sc) := fun us => by
    induction us with
    | nil => exact fun _ => .nil
    | cons u us ih => exact fun hs => .cons ⟨rfl, hs u List.mem_cons_self⟩ (ih fun z hz => hs z (List.mem_cons_of_mem _ hz))
  cases im with
  | sc v => exact ⟨.sc v, h⟩
  | dic => exact ⟨.dic, h⟩
  | tup us => obtain ⟨⟨a, e, t⟩, hs, l⟩ := h; exact ⟨.tup (us.map .sc), ⟨a, us, e, t, sc us hs⟩, by rw [List.length_map]; exact l⟩
  | lst us => obtain ⟨⟨a, e, t⟩, hs, l⟩ := h; exact ⟨.lst (us.map .sc), ⟨a, us, e, t, sc us hs⟩, by rw [List.length_map]; exact l⟩

/-! ### bent -/
structure BSt (H : Hp) (d c pl rp : Addr) (mv : V) (od : Addr) (b n : Nat) : Prop where
  hp : LI b true H pl
  p : PenOk H d c n
  mv : ∃ m, MvOk H mv m
  rw : ∃ w po X, Tup H rp [.str w, .str po, X] ∧ NmS 30 w ∧ NmS 30 po
  od : ∃ vs, H od = some (.lst vs) ∧ vs.length = 9 ∧ ∀ v ∈ vs, ∃ im, ImAt H v im
theorem BSt.keepP {H H' : Hp} {d c pl rp : Addr} {mv : V} {od : Addr} {b n m : Nat} (h : BSt H d c pl rp mv od b n) (k : Keep [d] H H') (p : PenOk H' d c m) : BSt H' d c pl rp mv od b m := by
  obtain ⟨m', hm⟩ := h.mv
  obtain ⟨w, po, X, t, r⟩ := h.rw
  obtain ⟨vs, e, l, a⟩ := h.od
  exact ⟨h.hp.keep k (frP h.p), p, ⟨m', hm.keep k h.p.noTup⟩, ⟨w, po, X, t.keep k (h.p.noTup _ _ t), r⟩, ⟨vs, k _ _ (nin1 (h.p.neL e)) e, l, fun v hv => let ⟨im, q⟩ := a v hv; ⟨im, q.keep k (frP h.p)⟩⟩⟩
theorem BSt.keep {H H' : Hp} {d c pl rp : Addr} {mv : V} {od : Addr} {b n : Nat} (h : BSt H d c pl rp mv od b n) (k : Keep [] H H') : BSt H' d c pl rp mv od b n := h.keepP k.all (h.p.keep k)
def SomeL (N : Nat) (H : Hp) (a : Addr) (k : Nat) : Prop := ∃ vs, H a = some (.lst vs) ∧ vs.length = k ∧ ∀ v ∈ vs, ∃ tg, TgAt N H v tg
theorem SomeL.keepP {N k n : Nat} {H H' : Hp} {a d c : Addr} (h : SomeL N H a k) (p : PenOk H d c n) (kk : Keep [d] H H') : SomeL N H' a k := let ⟨vs, e, l, t⟩ := h; ⟨vs, kk _ _ (nin1 (p.neL e)) e, l, fun v hv => let ⟨tg, q⟩ := t v hv; ⟨tg, q.keep kk (frP p)⟩⟩
theorem SomeL.keep {N k : Nat} {H H' : Hp} {a : Addr} (h : SomeL N H a k) (kk : Keep [] H H') : SomeL N H' a k := let ⟨vs, e, l, t⟩ := h; ⟨vs, kk _ _ nin0 e, l, fun v hv => let ⟨tg, q⟩ := t v hv; ⟨tg, q.keep kk fr0⟩⟩
section
variable {K : PySem.W.Frag} {H : Hp} {Q : VK} {N k m : Nat} {a b : Addr}
theorem some_new {vs : List V} (l : vs.length ≤ 100) (h : ∀ v ∈ vs, ∃ tg, TgAt N H v tg) (q : ∀ p H', H p = none → Keep [] H H' → SomeL N H' p vs.length → Q (.ref p) H') : vs.length ≤ sizeLine ∧ Mk H (.lst vs) Q :=
  ⟨len_le (by omega), fun p H' np kk e => q p H' np kk ⟨vs, e, rfl, fun v hv => let ⟨tg, t⟩ := h v hv; ⟨tg, t.keep kk fr0⟩⟩⟩
theorem some_add (h : SomeL N H a k) (h' : SomeL N H b m) (l : k + m ≤ 1000) (q : ∀ p H', H p = none → Keep [] H H' → SomeL N H' p (k + m) → Q (.ref p) H') : uAdd K (.ref a) (.ref b) H Q := by
  obtain ⟨vs, e, lv, t⟩ := h
  obtain ⟨ws, e', lw, t'⟩ := h'
  exact g_addL e e' (len_le (by omega)) fun p H' np kk e2 => q p H' np kk ⟨_, e2, by rw [List.length_append]; omega, fun v hv => (List.mem_append.mp hv).elim (fun hv => let ⟨tg, q⟩ := t v hv; ⟨tg, q.keep kk fr0⟩) fun hv => let ⟨tg, q⟩ := t' v hv; ⟨tg, q.keep kk fr0⟩⟩
end
section
variable {K : PySem.W.Frag} {H : Hp} {D : Ends} {d c t rl pl rp od : Addr} {mv : V} {b n : Nat} {at' : Int}
def Out (D : Ends) (d c : Addr) (n b : Nat) (H : Hp) : Prop := ∀ v tg H', Keep [d] H H' → PenOk H' d c n → TgAt (3 * b + 4) H' v tg → D.rt v H'
theorem Out.next {H' : Hp} (h : Out D d c n b H) (k : Keep [d] H H') : Out D d c n b H' := fun v tg H2 k2 p t => h v tg H2 (k.trans k2) p t
theorem bent1 {s : Addr} (h : BSt H d c pl rp mv od b n) (hs : SomeL (3 * b + 4) H s 12) (hn : n < 600000) (q : Out D d c (n + 1) b H) : t__law_bent_r1 K spDraw D [some (.ref d), some (.ref t), some (.ref rl), some (.ref pl), some (.int at'), some (.ref rp), some mv, some (.ref od), some (.ref s)] H := by
  unfold t__law_bent_r1
  walk_at "sx"
  refine ⟨d, c, 12, n, rfl, by decide, by decide, by omega, h.p, fun x H1 k1 p1 x0 x1 => ?_⟩
  obtain ⟨vs, e, l, ht⟩ := hs.keepP h.p k1
  have hx : x.toNat < vs.length := by omega
  obtain ⟨tg, q1⟩ := ht _ (List.getElem_mem hx)
  exact g_ixL e (at_lit (v := vs[x.toNat]) x.toNat (by omega) (List.getElem?_eq_getElem hx)) (q _ tg H1 k1 p1 q1)
theorem bent2 {s : Addr} (h : BSt H d c pl rp mv od b n) (hb : b ≤ 20) (hs : SomeL (3 * b + 4) H s 9) (hn : n < 600000) (q : Out D d c (n + 1) b H) : t__law_bent_r2 K spDraw D [some (.ref d), some (.ref t), some (.ref rl), some (.ref pl), some (.int at'), some (.ref rp), some mv, some (.ref od), some (.ref s)] H := by
  unfold t__law_bent_r2
  walk_at "sx"
  refine li_sl h.hp fun p1 H1 n1 k1 l1 => ?_
  have h1 := h.keep k1
  obtain ⟨m, hm⟩ := h1.mv
  refine li_one (M := true) (im_of hm) (fun _ => rfl) fun p2 H2 n2 k2 l2 => li_add (l1.keep k2 fr0) l2 (by omega) fun p3 H3 n3 k3 l3 => ?_
  have h3 := h1.keep (k2.trans k3)
  refine li_sl h3.hp fun p4 H4 n4 k4 l4 => li_add (l3.keep k4 fr0) l4 (by omega) fun p5 H5 n5 k5 l5 => ?_
  have h5 := h3.keep (k4.trans k5)
  have hm5 := hm.keep ((k2.trans k3).trans (k4.trans k5)) noTup0
  refine li_one (M := true) (im_of hm5) (fun _ => rfl) fun p6 H6 n6 k6 l6 => li_add (h5.hp.keep k6 fr0) l6 (by omega) fun p7 H7 n7 k7 l7 => li_sort l7 (by omega) fun p8 H8 n8 k8 l8 => ?_
  have k58 := k6.trans (k7.trans k8)
  have h8 := h5.keep k58
  have hm8 := hm5.keep k58 noTup0
  obtain ⟨w, po, X, tr, nw, npo⟩ := h8.rw
  refine g_ixT tr (at_lit 0 rfl rfl) ?_
  have nwa : NmS 60 (w ++ "a") := ⟨by rw [strLen_append]; have := nw.1; show w.length + 1 ≤ 60; omega, fun ch hc => by
    rw [cl_app] at hc
    rcases List.mem_append.mp hc with hc | hc
    · exact nw.2 ch hc
    · have : ch = 97 := by simpa using (show ch ∈ [97] from hc)
      omega⟩
  refine e_addS.mpr ⟨by have := nw.1; show w.length + 1 ≤ _; exact len_le (by omega), ?_⟩
  obtain ⟨⟨mp, rfl, tm⟩, m1, m2⟩ := hm8
  refine g_ixT tm (at_lit 1 rfl rfl) ⟨by walk_at "sz", fun p9 H9 n9 k9 t9 => ?_⟩
  have hm9 : MvOk H9 (.ref p9) (w ++ "a", m.2) := ⟨⟨p9, rfl, t9⟩, nwa, m2⟩
  refine li_one (M := true) (im_of hm9) (fun _ => rfl) fun pA HA nA kA lA => li_add lA ((h8.hp.keep k9 fr0).keep kA fr0) (by omega) fun pB HB nB kB lB => ?_
  have k8B := k9.trans (kA.trans kB)
  have l5B := (l5.keep k58 fr0).keep k8B fr0
  have l8B := l8.keep k8B fr0
  refine some_new (N := 3 * b + 4) (by simp) (fun v hv => ?_) fun pC HC nC kC sC => some_add ((hs.keep (((k1.trans (k2.trans k3)).trans (k4.trans k5)).trans (k58.trans k8B))).keep kC) sC (by simp) fun pD HD nD kD sD => ?_
  · simp only [List.mem_cons, List.not_mem_nil, or_false] at hv
    rcases hv with rfl | rfl | rfl
    · exact (l5B.more (by omega)).tg
    · exact (l8B.more (by omega)).tg
    · exact (lB.more (by omega)).tg
  · have kall := (((k1.trans (k2.trans k3)).trans (k4.trans k5)).trans (k58.trans k8B)).trans (kC.trans kD)
    exact bent1 (h.keep kall) sD hn (q.next kall.all)
theorem bent3 {s : Addr} (h : BSt H d c pl rp mv od b n) (hb : b ≤ 20) (hs : SomeL (3 * b + 4) H s 7) (hn : n < 590000) (q : Out D d c (n + 3) b H) : t__law_bent_r3 K spDraw D [some (.ref d), some (.ref t), some (.ref rl), some (.ref pl), some (.int at'), some (.ref rp), some mv, some (.ref od), some (.ref s)] H := by
  unfold t__law_bent_r3
  walk_at "sx"
  refine li_sl h.hp fun p1 H1 n1 k1 l1 => ?_
  have h1 := h.keep k1
  refine ⟨d, c, 9, n, rfl, by decide, by decide, by omega, h1.p, fun x H2 k2 q2 x0 x1 => ?_⟩
  have h2 := h1.keepP k2 q2
  obtain ⟨vs, eo, lo, ho⟩ := id h2.od
  have hx : x.toNat < vs.length := by omega
  obtain ⟨im, hi⟩ := ho _ (List.getElem_mem hx)
  refine g_ixL eo (at_lit (v := vs[x.toNat]) x.toNat (by omega) (List.getElem?_eq_getElem hx)) ?_
  generalize vs[x.toNat] = ov at hi
  refine li_one (M := false) hi (fun z => Bool.noConfusion z) fun p3 H3 n3 k3 l3 => li_add (((l1.keep k2 (frP h1.p)).keep k3 fr0).any) l3 (by omega) fun p4 H4 n4 k4 l4 => ?_
  have h4 := h2.keep (k3.trans k4)
  refine li_sl h4.hp fun p5 H5 n5 k5 l5 => li_add (l4.keep k5 fr0) l5.any (by omega) fun p6 H6 n6 k6 l6 => ?_
  have h6 := h4.keep (k5.trans k6)
  refine ⟨d, c, 9, n + 1, rfl, by decide, by decide, by omega, h6.p, fun y H7 k7 q7 y0 y1 => ?_⟩
  have h7 := h6.keepP k7 q7
  obtain ⟨vs', eo', lo', ho'⟩ := id h7.od
  have hy : y.toNat < vs'.length := by omega
  obtain ⟨im', hi'⟩ := ho' _ (List.getElem_mem hy)
  refine g_ixL eo' (at_lit (v := vs'[y.toNat]) y.toNat (by omega) (List.getElem?_eq_getElem hy)) ?_
  generalize vs'[y.toNat] = ov' at hi'
  have l67 := l6.keep k7 (frP h6.p)
  obtain ⟨tg', ht'⟩ := Im.tg hi'
  have s2 := (hs.keep k1).keepP h1.p k2
  have s7 := (s2.keep ((k3.trans k4).trans (k5.trans k6))).keepP h6.p k7
  refine some_new (N := 3 * b + 4) (by simp) (fun v hv => ?_) fun pC HC nC kC sC => some_add (s7.keep kC) sC (by simp) fun pD HD nD kD sD => ?_
  · simp only [List.mem_cons, List.not_mem_nil, or_false] at hv
    rcases hv with rfl | rfl
    · exact (l67.more (by omega)).tg
    · exact ⟨tg', ht'.more (by omega)⟩
  · have k07 : Keep [d] H H7 := k1.all.trans (k2.trans (((k3.trans k4).trans (k5.trans k6)).all.trans k7))
    exact bent2 (h7.keep (kC.trans kD)) hb sD (by omega) (q.next (k07.trans (kC.trans kD).all))
theorem bent4 {s : Addr} (h : BSt H d c pl rp mv od b n) (hb : b ≤ 20) (hs : SomeL (3 * b + 4) H s 3) (hn : n < 590000) (q : Out D d c (n + 3) b H) : t__law_bent_r4 K spDraw D [some (.ref d), some (.ref t), some (.ref rl), some (.ref pl), some (.int at'), some (.ref rp), some mv, some (.ref od), some (.ref s)] H := by
  unfold t__law_bent_r4
  walk_at "sx"
  refine li_rev h.hp (fun R r => by walk_at "sx"; exact r) fun p1 H1 n1 k1 l1 => ?_
  have h1 := h.keep k1
  refine li_sl h1.hp fun p2 H2 n2 k2 l2 => ?_
  have h2 := h1.keep k2
  refine li_sl h2.hp fun p3 H3 n3 k3 l3 => li_add (l2.keep k3 fr0) l3 (by omega) fun p4 H4 n4 k4 l4 => ?_
  have h4 := h2.keep (k3.trans k4)
  refine li_sl h4.hp fun p5 H5 n5 k5 l5 => li_add (l4.keep k5 fr0) l5 (by omega) fun p6 H6 n6 k6 l6 => ?_
  have h6 := h4.keep (k5.trans k6)
  refine li_tuple h6.hp fun v7 H7 tg7 k7 t7 => ?_
  have h7 := h6.keep k7
  refine li_sl h7.hp fun p8 H8 n8 k8 l8 => ?_
  have h8 := h7.keep k8
  refine li_sl h8.hp fun p9 H9 n9 k9 l9 => li_add (l8.keep k9 fr0) l9 (by omega) fun pA HA nA kA lA => ?_
  have k16 := k2.trans ((k3.trans k4).trans (k5.trans k6))
  have k7A := k8.trans (k9.trans kA)
  have k1A := k16.trans (k7.trans k7A)
  refine some_new (N := 3 * b + 4) (by simp) (fun v hv => ?_) fun pC HC nC kC sC => some_add ((hs.keep (k1.trans k1A)).keep kC) sC (by simp) fun pD HD nD kD sD => ?_
  · simp only [List.mem_cons, List.not_mem_nil, or_false] at hv
    rcases hv with rfl | rfl | rfl | rfl
    · exact ((l1.keep k1A fr0).more (by omega)).tg
    · exact ((l6.keep (k7.trans k7A) fr0).more (by omega)).tg
    · exact ⟨tg7, (t7.keep k7A fr0).more (by omega)⟩
    · exact (lA.more (by omega)).tg
  · have kall := (k1.trans k1A).trans (kC.trans kD)
    exact bent3 (h.keep kall) hb sD hn (q.next kall.all)
theorem bent5 (h : BSt H d c pl rp mv od b n) (hb : b ≤ 20) (hn : n < 590000) (q : Out D d c (n + 3) b H) : t__law_bent_r5 K spDraw D [some (.ref d), some (.ref t), some (.ref rl), some (.ref pl), some (.int at'), some (.ref rp), some mv, some (.ref od), none] H := by
  unfold t__law_bent_r5
  walk_at "sx"
  refine li_sl h.hp fun p1 H1 n1 k1 l1 => ?_
  have h1 := h.keep k1
  refine li_sl h1.hp fun p2 H2 n2 k2 l2 => li_add (l1.keep k2 fr0) l2 (by omega) fun p3 H3 n3 k3 l3 => ?_
  have h3 := h1.keep (k2.trans k3)
  refine li_sl h3.hp fun p4 H4 n4 k4 l4 => ?_
  have h4 := h3.keep k4
  obtain ⟨m, hm⟩ := h4.mv
  refine li_one (M := true) (im_of hm) (fun _ => rfl) fun p5 H5 n5 k5 l5 => li_add (l4.keep k5 fr0) l5 (by omega) fun p6 H6 n6 k6 l6 => ?_
  have h6 := h4.keep (k5.trans k6)
  refine li_sl h6.hp fun p7 H7 n7 k7 l7 => li_add (l6.keep k7 fr0) l7 (by omega) fun p8 H8 n8 k8 l8 => ?_
  have h8 := h6.keep (k7.trans k8)
  refine li_sl h8.hp fun p9 H9 n9 k9 l9 => ?_
  have h9 := h8.keep k9
  have k49 := (k5.trans k6).trans ((k7.trans k8).trans k9)
  refine li_one (M := true) (im_of (hm.keep k49 noTup0)) (fun _ => rfl) fun pA HA nA kA lA => li_add (l9.keep kA fr0) lA (by omega) fun pB HB nB kB lB => ?_
  have hB := h9.keep (kA.trans kB)
  refine li_sl hB.hp fun pC HC nC kC lC => li_add (lB.keep kC fr0) lC (by omega) fun pD HD nD kD lD => li_sort lD (by omega) fun pE HE nE kE lE => ?_
  have k3E : Keep [] H3 HE := (k4.trans k49).trans ((kA.trans kB).trans (kC.trans (kD.trans kE)))
  have k8E : Keep [] H8 HE := k9.trans ((kA.trans kB).trans (kC.trans (kD.trans kE)))
  refine some_new (N := 3 * b + 4) (by simp) (fun v hv => ?_) fun pF HF nF kF sF => ?_
  · simp only [List.mem_cons, List.not_mem_nil, or_false] at hv
    rcases hv with rfl | rfl | rfl
    · exact ((l3.keep k3E fr0).more (by omega)).tg
    · exact ((l8.keep k8E fr0).more (by omega)).tg
    · exact (lE.more (by omega)).tg
  · have kall := ((k1.trans (k2.trans k3)).trans k3E).trans kF
    exact bent4 (h.keep kall) hb sF hn (q.next kall.all)
/-- the odd things -/
theorem nm60 {w : Str} (h : NmS 30 w) : NmS 60 w := h.mono (by decide)
theorem bent6 (h : ∀ od H', Keep [] H H' → (∃ vs, H' od = some (.lst vs) ∧ vs.length = 9 ∧ ∀ v ∈ vs, ∃ im, ImAt H' v im) → BSt H' d c pl rp mv od b n) (hr : ∃ w po X, Tup H rp [.str w, .str po, X] ∧ NmS 30 w ∧ NmS 30 po) (hb : b ≤ 20) (hn : n < 590000) (q : Out D d c (n + 3) b H) : t__law_bent_r6 K spDraw D [some (.ref d), some (.ref t), some (.ref rl), some (.ref pl), some (.int at'), some (.ref rp), some mv, none, none] H := by
  obtain ⟨w, po, X, tr, nw, npo⟩ := hr
  unfold t__law_bent_r6
  walk_at "sx"
  refine g_ixT tr (at_lit 0 rfl rfl) ⟨by walk_at "sz", fun p1 H1 n1 k1 t1 => ?_⟩
  have tr1 := tr.keep k1 nin0
  refine g_ixT tr1 (at_lit 0 rfl rfl) (g_ixT tr1 (at_lit 1 rfl rfl) ⟨by walk_at "sz", fun p2 H2 n2 k2 e2 => ?_⟩)
  have tr2 := tr1.keep k2 nin0
  refine g_ixT tr2 (at_lit 0 rfl rfl) ⟨by walk_at "sz", fun p3 H3 n3 k3 t3 => ?_⟩
  have tr3 := tr2.keep k3 nin0
  refine g_ixT tr3 (at_lit 1 rfl rfl) ⟨by walk_at "sz", fun p4 H4 n4 k4 t4 => ?_⟩
  have tr4 := tr3.keep k4 nin0
  refine g_ixT tr4 (at_lit 0 rfl rfl) (g_ixT tr4 (at_lit 1 rfl rfl) (g_ixT tr4 (at_lit 1 rfl rfl) ⟨by walk_at "sz", fun p5 H5 n5 k5 t5 => ?_⟩))
  refine fun p6 H6 n6 k6 e6 => ⟨by walk_at "sz", fun p7 H7 n7 k7 e7 => ?_⟩
  walk_at "sx"
  have k17 := k2.trans (k3.trans (k4.trans (k5.trans (k6.trans k7))))
  have k27 := k3.trans (k4.trans (k5.trans (k6.trans k7)))
  have k37 := k4.trans (k5.trans (k6.trans k7))
  have k47 := k5.trans (k6.trans k7)
  have i1 : ImAt H1 (.ref p1) (.tup [.str w]) := ⟨⟨p1, rfl, t1⟩, fun u hu => by rw [List.mem_singleton.mp hu]; exact nm60 nw, by simp⟩
  have i2 : ImAt H2 (.ref p2) (.lst [.str w, .str po]) := ⟨⟨p2, rfl, e2⟩, fun u hu => by
    simp only [List.mem_cons, List.not_mem_nil, or_false] at hu
    rcases hu with rfl | rfl
    · exact nm60 nw
    · exact nm60 npo, by simp⟩
  have i3 : ImAt H3 (.ref p3) (.tup [.str w, .non]) := ⟨⟨p3, rfl, t3⟩, fun u hu => by
    simp only [List.mem_cons, List.not_mem_nil, or_false] at hu
    rcases hu with rfl | rfl
    · exact nm60 nw
    · exact trivial, by simp⟩
  have i4 : ImAt H4 (.ref p4) (.tup [.int 0, .str po]) := ⟨⟨p4, rfl, t4⟩, fun u hu => by
    simp only [List.mem_cons, List.not_mem_nil, or_false] at hu
    rcases hu with rfl | rfl
    · exact rfl
    · exact nm60 npo, by simp⟩
  have i5 : ImAt H5 (.ref p5) (.tup [.str w, .str po, .str po]) := ⟨⟨p5, rfl, t5⟩, fun u hu => by
    simp only [List.mem_cons, List.not_mem_nil, or_false] at hu
    rcases hu with rfl | rfl | rfl
    · exact nm60 nw
    · exact nm60 npo
    · exact nm60 npo, by simp⟩
  have kall := k1.trans k17
  refine bent5 (h p7 H7 kall ⟨_, e7, rfl, fun v hv => ?_⟩) hb hn (q.next kall.all)
  simp only [List.mem_cons, List.not_mem_nil, or_false] at hv
  rcases hv with rfl | rfl | rfl | rfl | rfl | rfl | rfl | rfl | rfl
  · exact ⟨.sc .non, rfl, trivial⟩
  · exact ⟨.sc (.bl true), rfl, trivial⟩
  · exact ⟨.sc (.str ""), rfl, by decide, fun ch hc => by cases hc⟩
  · exact ⟨_, i1.keep k17 fr0⟩
  · exact ⟨_, i2.keep k27 fr0⟩
  · exact ⟨_, i3.keep k37 fr0⟩
  · exact ⟨_, i4.keep k47 fr0⟩
  · exact ⟨_, i5.keep (k6.trans k7) fr0⟩
  · exact ⟨.dic, p6, rfl, k7 _ _ nin0 e6⟩
end

/-! ### bent, whole -/
section
variable {K : PySem.W.Frag} {H : Hp} {D : Ends} {d c t rl pl rp : Addr} {b n : Nat} {at' : Int}
theorem bent7 {T : Tn} (hp : LI b true H pl) (p : PenOk H d c n) (hT : TnAt H t T) (ok : TwOk T) (hr : ∃ w po X, Tup H rp [.str w, .str po, X] ∧ NmS 30 w ∧ NmS 30 po) (hb : b ≤ 20) (hn : n < 580000) (q : Out D d c (n + 4) b H) : t__law_bent_r7 K spDraw D [some (.ref d), some (.ref t), some (.ref rl), some (.ref pl), some (.int at'), some (.ref rp), none, none, none] H := by
  obtain ⟨w, po, X, tr, nw, npo⟩ := hr
  obtain ⟨ap, ar, as, rdv, g1, g2, g3, g4, g5⟩ := hT
  have p10 := ok.p10
  have s5 := ok.s5
  have s1 := ok.s1
  unfold t__law_bent_r7
  walk_at "sx"
  refine g_ixT tr (at_lit 0 rfl rfl) (g_ixT g1 (at_lit 2 rfl rfl) (g_ixT g1 (at_lit 0 rfl rfl) (g_addT g5 g2 (by rw [List.length_map, List.length_map]; exact len_le (by omega)) fun p1 H1 k1 t1 => ?_)))
  rw [← List.map_append] at t1
  have g11 := g1.keep k1 nin0
  refine g_ixT g11 (at_lit 2 rfl rfl) (g_lenT (g5.keep k1 nin0) (g_ixT g11 (at_lit 0 rfl rfl) (g_lenT (g2.keep k1 nin0) ?_)))
  rw [List.length_map, List.length_map]
  walk_at "sx"
  refine ⟨d, c, _, n, rfl, by omega, by omega, by omega, p.keep k1, fun x H2 k2 p2 x0 x1 => ?_⟩
  have hx : x.toNat < (T.stands ++ T.places).length := by rw [List.length_append]; omega
  have hin : (T.stands ++ T.places)[x.toNat] ∈ T.places := (List.mem_append.mp (List.getElem_mem hx)).elim (ok.sp _) id
  refine g_ixT (t1.keep k2 ((p.keep k1).noTup _ _ t1)) (at_lit (v := .str (T.stands ++ T.places)[x.toNat]) x.toNat (by omega) (by rw [List.getElem?_map, List.getElem?_eq_getElem hx]; rfl)) ?_
  generalize (T.stands ++ T.places)[x.toNat] = st at hin
  refine ⟨by walk_at "sz", fun p3 H3 n3 k3 t3 => ?_⟩
  walk_at "sx"
  have k13 : Keep [d] H H3 := k1.all.trans (k2.trans k3.all)
  have p3' := p2.keep k3
  have tr3 := tr.keep k13 (p.noTup _ _ tr)
  refine bent6 (n := n + 1) (b := b) (fun od H' k' ho => ⟨(hp.keep k13 (frP p)).keep k' fr0, p3'.keep k', ⟨(w, st), ⟨p3, rfl, t3.keep k' nin0⟩, nm60 nw, nm60 (ok.nm _ hin)⟩, ⟨w, po, X, tr3.keep k' nin0, nw, npo⟩, ho⟩) ⟨w, po, X, tr3, nw, npo⟩ hb (by omega) (q.next k13)
end
theorem ne_nilD {K : PySem.W.Frag} {H : Hp} {a b : Addr} {xs : List V} {ds : List PyData} {Q : VK} (h : H a = some (.lst xs)) (d : DpAll K H xs ds) (c : PyData.canLayAll0 ds = true) (l : PyData.depthAll ds ≤ 4) (e : H b = some (.lst [])) (q : Q (.bl (!ds.isEmpty)) H) : uEq K true (.ref a) (.ref b) H Q := by
  refine .inr ⟨_, _, .lst (lst_sq h) d, .lst (lst_sq e) .nil, shaped_list c l, by decide +kernel, ?_⟩
  rw [if_pos rfl]
  cases ds with
  | nil => exact q
  | cons y ys => exact q
def spBent : Sp := fun vs H Q _ => ∃ (d c t rl pl : Addr) (n b : Nat) (T : Tn) (rv : List V) (rs : List Rw), vs = [.ref d, .ref t, .ref rl, .ref pl] ∧ n < 500000 ∧ b ≤ 20 ∧ PenOk H d c n ∧ TnAt H t T ∧ TwOk T ∧ H rl = some (.lst rv) ∧ EI (RwAt H) rv rs ∧ RsOk T rs ∧ LI b true H pl ∧
  ∀ v tg H', Keep [d] H H' → PenOk H' d c (n + 6) → TgAt (3 * b + 4) H' v tg → Q v H'
theorem rd_bent (K : PySem.W.Frag) : ∀ vs H Q E, spBent vs H Q E → run (t__law_bent K spDraw) (L2.start N__law_bent vs) H Q := by
  rintro _ H Q _ ⟨d, c, t, rl, pl, n, b, T, rv, rs, rfl, hn, hb, p, hT, ok, hr, er, rok, hp, q⟩
  show run (t__law_bent K spDraw) [some (.ref d), some (.ref t), some (.ref rl), some (.ref pl), none, none, none, none, none] H Q
  unfold t__law_bent
  walk_at "sx"
  obtain ⟨pv, pis, pe, pei, pln, phm⟩ := id hp
  refine g_lenL pe ?_
  walk_at "sx"
  have lpv := pei.length
  have r5 := rok.l
  have p1' := ok.p1
  refine ⟨d, c, _, n, rfl, by omega, by omega, by omega, p, fun at' H1 k1 p1 a0 a1 => ?_⟩
  walk_at "sx"
  have hp1 := hp.keep k1 (frP p)
  have hT1 := hT.keep k1 p.noTup
  have hr1 := k1 _ _ (nin1 (p.neL hr)) hr
  have er1 := rws_keep er k1 p.noTup
  refine ⟨by walk_at "sz", fun e0 H2 n2 k2 e2 => ?_⟩
  have p2 := p1.keep k2
  have hT2 := hT1.keep k2 noTup0
  have hr2 := k2 _ _ nin0 hr1
  have er2 := rws_keep er1 k2 noTup0
  have hp2 := hp1.keep k2 fr0
  have out : ∀ m H', m ≤ n + 6 → Keep [d] H H' → Out { nx := fun x H' => Q V.non H', rt := Q } d c m b H' := fun m H' l k' v tg H'' k'' p'' t'' => q v tg H'' (k'.trans k'') (p''.mono l) t''
  obtain ⟨c1, c2⟩ := lay_rws (rs := rs) (rsok_nm ok rok)
  have k12 : Keep [d] H H2 := k1.trans k2.all
  refine ne_nilD hr2 (dp_rws er2) c1 (by omega) e2 ⟨_, rfl, ?_⟩
  cases hrs : rs with
  | nil =>
    rw [hrs] at er2
    change if false = true then _ else _
    rw [if_neg (by decide)]
    obtain ⟨ap, ar, as, rdv, g1, g2, g3, g4, g5⟩ := hT2
    obtain ⟨y, ys, hy⟩ : ∃ y ys, T.places = y :: ys := by
      cases h : T.places with
      | nil => rw [h] at p1'; simp at p1'
      | cons y ys => exact ⟨y, ys, rfl⟩
    refine g_ixT g1 (at_lit 0 rfl rfl) (g_ixT g2 (at_lit (v := .str y) 0 rfl (by rw [hy]; rfl)) ⟨by walk_at "sz", fun p3 H3 n3 k3 t3 => ⟨by walk_at "sz", fun p4 H4 n4 k4 t4 => ?_⟩⟩)
    walk_at "sx"
    have k24 := k3.trans k4
    have hy' : y ∈ T.places := by rw [hy]; exact List.mem_cons_self
    exact bent7 (n := n + 1) (T := T) (hp2.keep k24 fr0) (p2.keep k24) (TnAt.keep ⟨ap, ar, as, rdv, g1, g2, g3, g4, g5⟩ k24 noTup0) ok ⟨"w", y, _, t4, by decide, ok.nm _ hy'⟩ hb (by omega) (out _ _ (by omega) (k12.trans k24.all))
  | cons r0 rs' =>
    change if true = true then _ else _
    rw [if_pos rfl]
    refine g_lenL hr2 ?_
    have lr := er2.length
    have l0 : 1 ≤ rs.length := by rw [hrs]; simp
    refine ⟨d, c, _, n + 1, rfl, by omega, by omega, by omega, p2, fun x H3 k3 p3 x0 x1 => ?_⟩
    have hx : x.toNat < rv.length := by omega
    have er3 := rws_keep er2 k3 p2.noTup
    obtain ⟨r, hr', hR⟩ := ei_got er3 (List.getElem?_eq_getElem hx)
    have hm := List.mem_of_getElem? hr'
    refine g_ixL (k3 _ _ (nin1 (p2.neL hr2)) hr2) (at_lit (v := rv[x.toNat]) x.toNat (by omega) (List.getElem?_eq_getElem hx)) ?_
    obtain ⟨pr, ct, erv, tp, tc⟩ := hR
    rw [erv]
    walk_at "sx"
    exact bent7 (n := n + 2) (T := T) (hp2.keep k3 (frP p2)) p3 (hT2.keep k3 p2.noTup) ok ⟨r.w, r.p, _, tp, rok.nm r hm, ok.nm _ (rok.p r hm)⟩ hb (by omega) (out _ _ (by omega) (k12.trans k3))

/-! ### what the law holds -/
theorem Tabs.keepD {L : List Addr} {H H' : Hp} {p : Addr} (h : Tabs L H) (k : Keep [p] H H') (n : p ∉ L) : Tabs L H' := fun b hb => let ⟨ps, e, t⟩ := h b hb; ⟨ps, k _ _ (nin1 fun z => n (z ▸ hb)) e, t⟩
theorem PenOk.kt {L : List Addr} {H H' : Hp} {d c : Addr} {n : Nat} (p : PenOk H d c n) (ht : Tabs L H) (k : KT L H H') : PenOk H' d c n := by
  obtain ⟨cells, a, b, q, h⟩ := p
  exact ⟨cells, a, b, ⟨k.k _ _ (ht.dK q.d) q.d, k.k _ _ (ht.lst q.c) q.c, q.l, q.a0, q.l0⟩, h⟩
theorem PenOk.ninL {L : List Addr} {H : Hp} {d c : Addr} {n : Nat} (p : PenOk H d c n) (ht : Tabs L H) : d ∉ L := by
  obtain ⟨cells, a, b, q, h⟩ := p
  exact ht.dK q.d
def RL (H : Hp) (rl : Addr) (rs : List Rw) : Prop := ∃ rv, H rl = some (.lst rv) ∧ EI (RwAt H) rv rs
theorem RL.keep {S : List Addr} {H H' : Hp} {rl : Addr} {rs : List Rw} (h : RL H rl rs) (k : Keep S H H') (f : Fr0 S H) : RL H' rl rs := let ⟨rv, e, er⟩ := h; ⟨rv, k _ _ (f.l _ _ e) e, rws_keep er k f.t⟩
structure LSt (L : List Addr) (H : Hp) (d c t rl ol : Addr) (T : Tn) (rs os : List Rw) (n : Nat) : Prop where
  p : PenOk H d c n
  t : TnAt H t T
  r : RL H rl rs
  o : RL H ol os
  tb : Tabs L H
section
variable {L : List Addr} {H H' : Hp} {d c t rl ol : Addr} {T : Tn} {rs os : List Rw} {n m : Nat}
theorem LSt.keepP (h : LSt L H d c t rl ol T rs os n) (k : Keep [d] H H') (p : PenOk H' d c m) : LSt L H' d c t rl ol T rs os m :=
  ⟨p, h.t.keep k h.p.noTup, h.r.keep k (frP h.p), h.o.keep k (frP h.p), h.tb.keepD k (h.p.ninL h.tb)⟩
theorem LSt.keep (h : LSt L H d c t rl ol T rs os n) (k : Keep [] H H') : LSt L H' d c t rl ol T rs os n := h.keepP k.all (h.p.keep k)
theorem LSt.kt (h : LSt L H d c t rl ol T rs os n) (k : KT L H H') : LSt L H' d c t rl ol T rs os n :=
  ⟨h.p.kt h.tb k, h.t.keep k.k h.tb.noTup, h.r.keep k.k (frT h.tb), h.o.keep k.k (frT h.tb), k.t h.tb⟩
end
/-! what repr tells of them -/
theorem sc_dp {K : PySem.W.Frag} {H : Hp} {v : V} (h : scOk v) : Dp K H v (scD v) := by
  cases v with
  | non => exact .non
  | bl b => exact .bl b
  | int i => exact .int i
  | str y => exact .str y
  | _ => exact h.elim
theorem scs_dp {K : PySem.W.Frag} {H : Hp} : ∀ {us : List V}, (∀ u ∈ us, scOk u) → DpAll K H us (us.map scD)
  | [], _ => .nil
  | u :: us, h => .cons (sc_dp (h u List.mem_cons_self)) (scs_dp fun z hz => h z (List.mem_cons_of_mem _ hz))
theorem im_dq {K : PySem.W.Frag} {H : Hp} {x : V} {im : Im} (h : ImAt H x im) : Dq K H x (imD im) := by
  cases im with
  | sc v => obtain ⟨rfl, hv⟩ := h; exact .dp (sc_dp hv)
  | tup us => obtain ⟨⟨a, rfl, t⟩, hs, _⟩ := h; exact .dp (.tup t.sq (scs_dp hs))
  | lst us => obtain ⟨⟨a, rfl, e⟩, hs, _⟩ := h; exact .dp (.lst (lst_sq e) (scs_dp hs))
  | dic => obtain ⟨a, rfl, e⟩ := h; exact .dic e
theorem ims_dq {K : PySem.W.Frag} {H : Hp} : ∀ {vs : List V} {is : List Im}, EI (ImAt H) vs is → DqAll K H vs (is.map imD)
  | _, _, .nil => .nil
  | _, _, .cons h q => .cons (im_dq h) (ims_dq q)
theorem tg_dq {K : PySem.W.Frag} {H : Hp} {n : Nat} {x : V} {tg : Tg} (h : TgAt n H x tg) : Dq K H x (tgD tg) := by
  cases tg with
  | sc v => obtain ⟨rfl, hv⟩ := h; exact .dp (sc_dp hv)
  | tup us => obtain ⟨⟨a, vs, rfl, t, e⟩, _⟩ := h; exact .tup t (ims_dq e)
  | lst us => obtain ⟨⟨a, vs, rfl, t, e⟩, _⟩ := h; exact .lst t (ims_dq e)
  | dic => obtain ⟨a, rfl, e⟩ := h; exact .dic e
theorem sm_lst {α : Type} {c k : Nat} (g : α → PyData) (xs : List α) (h : ∀ x ∈ xs, Sm c k (g x)) : Sm (xs.length * (c + 2) + 3) (k + 1) (.list (xs.map g)) := by
  have a := sm_tup g xs h
  refine ⟨a.f, ?_, ?_⟩
  · have h1 : costs (xs.map g) + 3 ≤ xs.length * (c + 2) + 3 := a.c
    show costs (xs.map g) + 2 ≤ _
    omega
  · have := a.d
    simp only [PyData.depth] at this ⊢
    exact this
theorem sc_sm {v : V} (h : scOk v) : Sm 1921 0 (scD v) := by
  cases v with
  | int i =>
    have : i = 0 := h
    subst this
    exact ⟨show (0 : Int).natAbs.log2 < 1920 by decide, Nat.le_refl _, by simp [scD, PyData.depth]⟩
  | str y => exact ⟨fun ch hc => Nat.lt_of_lt_of_le (h.2 ch hc) (by decide), by show 10 * y.length + 2 ≤ 1921; have := h.1; omega, by simp [scD, PyData.depth]⟩
  | non => exact ⟨trivial, show 4 ≤ 1921 by decide, by simp [scD, PyData.depth]⟩
  | bl b => exact ⟨trivial, show 5 ≤ 1921 by decide, by simp [scD, PyData.depth]⟩
  | _ => exact h.elim
theorem im_sm {H : Hp} {x : V} {im : Im} (h : ImAt H x im) : Sm 6000 1 (imD im) := by
  cases im with
  | sc v => exact (sc_sm h.2).mono (by decide) (by decide)
  | tup us => obtain ⟨_, hs, l⟩ := h; exact (sm_tup scD us fun u hu => sc_sm (hs u hu)).mono (by omega) (by decide)
  | lst us => obtain ⟨_, hs, l⟩ := h; exact (sm_lst scD us fun u hu => sc_sm (hs u hu)).mono (by omega) (by decide)
  | dic => exact ⟨trivial, by decide, by decide⟩
theorem ims_sm {H : Hp} {vs : List V} {is : List Im} (h : EI (ImAt H) vs is) : ∀ im ∈ is, Sm 6000 1 (imD im) := fun im hi => by
  obtain ⟨i, hl, e⟩ := List.getElem_of_mem hi
  obtain ⟨v, _, hv⟩ := ei_get h (r := im) (i := i) (by rw [List.getElem?_eq_getElem hl, e])
  exact im_sm hv
theorem tg_sm {H : Hp} {x : V} {tg : Tg} (h : TgAt 61 H x tg) : Sm 400000 2 (tgD tg) := by
  cases tg with
  | sc v => exact (sc_sm h.2).mono (by decide) (by decide)
  | tup us => obtain ⟨⟨a, vs, _, _, e⟩, l⟩ := h; exact (sm_tup imD us (ims_sm e)).mono (by omega) (by decide)
  | lst us => obtain ⟨⟨a, vs, _, _, e⟩, l⟩ := h; exact (sm_lst imD us (ims_sm e)).mono (by omega) (by decide)
  | dic => exact ⟨trivial, by decide, by decide⟩
theorem rw_sm {T : Tn} {rs : List Rw} (ok : TwOk T) (rok : RsOk T rs) : ∀ r ∈ rs, Sm 2200 2 (rwD r) := fun r hr => by
  obtain ⟨n1, n2, n3⟩ := rsok_nm ok rok r hr
  have a := sm_str n1
  have b := sm_str n2
  have c := sm_tup (α := Str) (c := 302) (k := 0) PyData.str r.can fun y hy => sm_str (n3 y hy)
  have ac := a.c
  have bc := b.c
  have cc := c.c
  have ad := a.d
  have bd := b.d
  have cd := c.d
  have c5 := (rok.c r hr).1
  refine ⟨⟨a.f, b.f, c.f, trivial⟩, ?_, ?_⟩
  · show cost (.str r.w) + 2 + (cost (.str r.p) + 2 + (cost (.tuple (r.can.map .str)) + 2 + 0)) + 3 ≤ 2200
    omega
  · unfold rwD
    simp only [PyData.depth, PyData.depthAll] at *
    omega
theorem g_repAll {K : PySem.W.Frag} {H : Hp} {a rl ol : Addr} {x : V} {T : Tn} {rs os : List Rw} {tg : Tg} {Q : VK} (ok : TwOk T) (rok : RsOk T rs) (sok : RsOk T os) (tt : Tup H a [.ref rl, .ref ol, x]) (hr : RL H rl rs) (ho : RL H ol os) (hx : TgAt 61 H x tg)
    (q : Q (.str (PyData.tuple [.list (rs.map rwD), .list (os.map rwD), tgD tg]).shown) H) : uReprQ K [.ref a] H Q := by
  obtain ⟨rv, er, hr⟩ := hr
  obtain ⟨ov, eo, ho⟩ := ho
  have a1 := sm_lst rwD rs (rw_sm ok rok)
  have a2 := sm_lst rwD os (rw_sm ok sok)
  have a3 := tg_sm hx
  have c1 := a1.c
  have c2 := a2.c
  have c3 := a3.c
  have d1 := a1.d
  have d2 := a2.d
  have d3 := a3.d
  have l1 := rok.l
  have l2 := sok.l
  refine ⟨a, _, _, rfl, tt, .cons (.dp (.lst (lst_sq er) (dp_rws hr))) (.cons (.dp (.lst (lst_sq eo) (dp_rws ho))) (.cons (tg_dq hx) .nil)), ⟨a1.f, a2.f, a3.f, trivial⟩, ?_, ?_, q⟩
  · simp only [PyData.depth, PyData.depthAll] at *
    omega
  · show cost (.list (rs.map rwD)) + 2 + (cost (.list (os.map rwD)) + 2 + (cost (tgD tg) + 2 + 0)) + 3 ≤ 10000000
    omega

/-! ### the law -/
def bnd : Nat → Nat
  | 0 => 5
  | n + 1 => 3 * bnd n + 4
theorem moves_li {n : Nat} {H : Hp} {x : V} {tg : Tg} (h : TgAt n H x tg) (hm : movesB tg = true) : ∃ a, x = .ref a ∧ LI n true H a := by
  cases tg with
  | sc v => exact Bool.noConfusion hm
  | tup us => exact Bool.noConfusion hm
  | dic => exact Bool.noConfusion hm
  | lst is => obtain ⟨⟨a, vs, e, t, q⟩, l⟩ := h; exact ⟨a, e, vs, is, t, q, l, fun _ im hi => List.all_eq_true.mp (show is.all isMv = true from hm) im hi⟩
theorem li_ms {T : Tn} {H : Hp} {a : Addr} {mv : List V} {ms : List (Str × Str)} (ok : TwOk T) (mok : MsOk T ms) (e : H a = some (.lst mv)) (em : EI (MvAt H) mv ms) : LI 5 true H a := by
  have key : ∀ {mv : List V} {ms : List (Str × Str)}, EI (MvAt H) mv ms → (∀ m ∈ ms, NmS 30 m.1 ∧ NmS 30 m.2) → EI (MvOk H) mv ms := by
    intro mv ms h
    induction h with
    | nil => exact fun _ => .nil
    | cons h _ ih => exact fun hs => .cons ⟨h, nm60 (hs _ List.mem_cons_self).1, nm60 (hs _ List.mem_cons_self).2⟩ (ih fun z hz => hs z (List.mem_cons_of_mem _ hz))
  have h := key em fun m hm => ⟨mok.nm m hm, ok.nm _ (mok.p m hm)⟩
  refine ⟨mv, _, e, ims_of h, by rw [List.length_map]; exact mok.l, fun _ im hi => ?_⟩
  obtain ⟨m, _, rfl⟩ := List.mem_map.mp hi
  rfl
section
variable {K : PySem.W.Frag} {L : List Addr} {H : Hp} {D : Ends} {a d c t rl ol pl : Addr} {T : Tn} {rs os : List Rw} {n : Nat} {x : V} {tg : Tg} {y5 y8 y9 y10 y11 y12 : Option V} {P : Addr}
abbrev tb1 (K : PySem.W.Frag) (L : List Addr) (P : Addr) : TS := t_law_b1 K (spHeld K) spTownH spRows spDraw spPlan spBent (spAre 61) (spIsPlan 61 L P) (spLPlan 61)
abbrev tb2 (K : PySem.W.Frag) (L : List Addr) (P : Addr) : TS := t_law_b2 K (spHeld K) spTownH spRows spDraw spPlan spBent (spAre 61) (spIsPlan 61 L P) (spLPlan 61)
abbrev tb3 (K : PySem.W.Frag) (L : List Addr) (P : Addr) : TS := t_law_b3 K (spHeld K) spTownH spRows spDraw spPlan spBent (spAre 61) (spIsPlan 61 L P) (spLPlan 61)
abbrev tr2 (K : PySem.W.Frag) (L : List Addr) (P : Addr) : TS := t_law_r2 K (spHeld K) spTownH spRows spDraw spPlan spBent (spAre 61) (spIsPlan 61 L P) (spLPlan 61)
theorem law_two (hP : P ∈ L) (ok : TwOk T) (rok : RsOk T rs) (sok : RsOk T os) (h : LSt L H d c t rl ol T rs os n) (hx : TgAt 61 H x tg)
    (q : ∀ H' z9 z10 z11, LSt L H' d c t rl ol T rs os n → D.nx [some (.ref a), some (.ref d), some (.ref t), some (.ref rl), some (.ref ol), y5, some (.ref pl), some x, y8, z9, z10, z11, y12] H') :
    tr2 K L P D [some (.ref a), some (.ref d), some (.ref t), some (.ref rl), some (.ref ol), y5, some (.ref pl), some x, y8, y9, y10, y11, y12] H := by
  unfold tr2 t_law_r2
  walk_at "sx"
  refine ⟨by walk_at "sz", fun p1 H1 n1 k1 t1 => ?_⟩
  have h1 := h.keep k1
  have hx1 := hx.keep k1 fr0
  refine g_repAll ok rok sok t1 h1.r h1.o hx1 ?_
  walk_at "sx"
  refine ⟨by walk_at "sz", fun p2 H2 n2 k2 t2 => ?_⟩
  have h2 := h1.keep k2
  have hx2 := hx1.keep k2 fr0
  refine g_FEs (RR := fun H' (v : V) (r : Addr × List Rw) => v = .ref r.1 ∧ RL H' r.1 r.2 ∧ RsOk T r.2) L (.inr t2) (h2.tb.noTup _ _ t2) (rs := [(rl, rs), (ol, os), (rl, rs)]) (.cons ⟨rfl, h2.r, rok⟩ (.cons ⟨rfl, h2.o, sok⟩ (.cons ⟨rfl, h2.r, rok⟩ .nil)))
    (fun H' v r h k => ⟨h.1, h.2.1.keep k (frT h2.tb), h.2.2⟩) (fun j σ H' => KT L H2 H' ∧ ∃ z10 z11, σ = [some (.ref a), some (.ref d), some (.ref t), some (.ref rl), some (.ref ol), y5, some (.ref pl), some x, y8, some (.str (PyData.tuple [.list (rs.map rwD), .list (os.map rwD), tgD tg]).shown), z10, z11, y12]) ⟨KT.refl _ _, _, _, rfl⟩ ?_ ?_
  · rintro j v ⟨ra, rr⟩ σ H3 hj k3 ⟨rfl, hrl, rrok⟩ ⟨kt3, z10, z11, rfl⟩
    have h3 := h2.kt kt3
    have hx3 := hx2.keep kt3.k (frT h2.tb)
    obtain ⟨rv, re, rer⟩ := id hrl
    walk_at "sx"
    unfold t_law_b2
    walk_at "sx"
    refine ⟨ra, .ref t, x, rv, rr, tg, rfl, re, rer, hx3, h3.tb, hP, fun H4 k4 => ?_⟩
    walk_at "sx"
    have h4 := h3.kt k4
    have hx4 := hx3.keep k4.k (frT h3.tb)
    obtain ⟨rv4, re4, rer4⟩ := hrl.keep k4.k (frT h3.tb)
    refine g_isi (.base (.bl _)) (show kitB "bool" "bool" = some true by decide +kernel) ⟨true, rfl, ?_⟩
    rw [if_neg (by decide)]
    refine ⟨ra, x, rv4, rr, T, tg, rfl, re4, rer4, ok, rrok, hx4, fun H5 k5 => ?_⟩
    refine g_ne rfl ⟨false, by rw [decide_eq_true rfl]; rfl, ?_⟩
    rw [if_neg (by decide)]
    have k35 := kt3.trans (k4.trans (KT.of0 k5))
    exact ⟨k35.k, k35, _, _, rfl⟩
  · rintro σ H3 k3 ⟨kt3, z10, z11, rfl⟩
    have h3 := h2.kt kt3
    have hx3 := hx2.keep kt3.k (frT h2.tb)
    unfold t_law_r1
    walk_at "sx"
    refine ⟨by walk_at "sz", fun p4 H4 n4 k4 t4 => ?_⟩
    have h4 := h3.keep k4
    refine g_repAll ok rok sok t4 h4.r h4.o (hx3.keep k4 fr0) (g_ne rfl ⟨false, by rw [decide_eq_true rfl]; rfl, ?_⟩)
    rw [if_neg (by decide)]
    exact q H4 _ _ _ h4
end

/-! ### the law, whole -/
def spLaw (K : PySem.W.Frag) (L : List Addr) : Sp := fun vs H Q _ => ∃ (a : Addr) (ns : List Int), vs = [.ref a] ∧ Scr K H a (ns.map V.int) ∧ ns.length ≤ 63 ∧ Tabs L H ∧ ∀ H', Q (.bl true) H'
section
variable {K : PySem.W.Frag} {L : List Addr} {H : Hp} {D : Ends} {a d c t rl ol : Addr} {T : Tn} {rs os : List Rw} {n : Nat} {y5 y6 y7 y8 y9 y10 y11 y12 : Option V} {P : Addr}
theorem law_three (hP : P ∈ L) (ok : TwOk T) (rok : RsOk T rs) (sok : RsOk T os) (hn : n < 400000) (h : LSt L H d c t rl ol T rs os n)
    (q : ∀ H' z6 z7 z8 z9 z10 z11, LSt L H' d c t rl ol T rs os (n + 50) → D.nx [some (.ref a), some (.ref d), some (.ref t), some (.ref rl), some (.ref ol), y5, z6, z7, z8, z9, z10, z11, y12] H') :
    tb3 K L P D [some (.ref a), some (.ref d), some (.ref t), some (.ref rl), some (.ref ol), y5, y6, y7, y8, y9, y10, y11, y12] H := by
  unfold tb3 t_law_b3
  walk_at "sx"
  obtain ⟨rv, re, rer⟩ := id h.r
  refine ⟨d, c, rl, n, T, rv, rs, rfl, by omega, h.p, ok, re, rer, rok, fun pl H1 mv ms n1 k1 p1 e1 em mok => ?_⟩
  have h1 := h.keepP k1 p1
  have lp1 := li_ms ok mok e1 em
  walk_at "sx"
  refine ⟨by walk_at "sz", fun l4 H2 n2 k2 e2 => ?_⟩
  have h2 := h1.keep k2
  have lp2 := lp1.keep k2 fr0
  refine ⟨d, c, 4, n + 20, rfl, by decide, by decide, by omega, h2.p, fun v H3 k3 p3 v0 v1 => ?_⟩
  have h3 := h2.keepP k3 p3
  have lp3 := lp2.keep k3 (frP h2.p)
  obtain ⟨w, hw, w2⟩ : ∃ w : Nat, atI [V.int 0, V.int 1, V.int 1, V.int 2] v = some (.int (w : Nat)) ∧ w ≤ 2 := by
    have : v = 0 ∨ v = 1 ∨ v = 2 ∨ v = 3 := by omega
    rcases this with rfl | rfl | rfl | rfl
    · exact ⟨0, rfl, by decide⟩
    · exact ⟨1, rfl, by decide⟩
    · exact ⟨1, rfl, by decide⟩
    · exact ⟨2, rfl, by decide⟩
  refine g_ixL (k3 _ _ (nin1 (h2.p.neL e2)) e2) hw ?_
  obtain ⟨tg0, ht0⟩ := lp3.tg
  refine g_FR1 (by omega) (by omega) ⟨fun j σ H' => ∃ (x : V) (tg : Tg) (y8 : Option V), σ = [some (.ref a), some (.ref d), some (.ref t), some (.ref rl), some (.ref ol), y5, some (.ref pl), some x, y8, y9, y10, y11, y12] ∧ LSt L H' d c t rl ol T rs os (n + 21 + 6 * j) ∧ LI 5 true H' pl ∧ TgAt (bnd j) H' x tg, ⟨_, tg0, _, rfl, h3, lp3, ht0⟩, ?_, ?_⟩
  · rintro j σ H4 hj ⟨x, tg, y8', rfl, h4, lp4, hx⟩
    have hj2 : j < 2 := by omega
    have hb : bnd j ≤ 20 := by
      have : j = 0 ∨ j = 1 := by omega
      rcases this with rfl | rfl <;> decide
    have hb5 : 5 ≤ bnd j := by
      have : j = 0 ∨ j = 1 := by omega
      rcases this with rfl | rfl <;> decide
    walk_at "sx"
    unfold t_law_b1
    walk_at "sx"
    refine ⟨x, tg, rfl, hx.more (by omega), fun H5 k5 => ⟨_, rfl, ?_⟩⟩
    have h5 := h4.keep k5
    have lp5 := lp4.keep k5 fr0
    have hx5 := hx.keep k5 fr0
    obtain ⟨rv5, re5, rer5⟩ := id h5.r
    have go : ∀ p, LI (bnd j) true H5 p → spBent [.ref d, .ref t, .ref rl, .ref p] H5 (fun x H1 => ∃ (x_1 : V) (tg : Tg) (y8 : Option V), [some (V.ref a), some (.ref d), some (.ref t), some (.ref rl), some (.ref ol), y5, some (.ref pl), some x, some (.int (j : Nat)), y9, y10, y11, y12] = [some (.ref a), some (.ref d), some (.ref t), some (.ref rl), some (.ref ol), y5, some (.ref pl), some x_1, y8, y9, y10, y11, y12] ∧ LSt L H1 d c t rl ol T rs os (n + 21 + 6 * (j + 1)) ∧ LI 5 true H1 pl ∧ TgAt (bnd (j + 1)) H1 x_1 tg) E0 := fun p hp =>
      ⟨d, c, t, rl, p, n + 21 + 6 * j, bnd j, T, rv5, rs, rfl, by omega, hb, h5.p, h5.t, ok, re5, rer5, rok, hp, fun v tg' H6 k6 p6 t6 => ⟨v, tg', _, rfl, h5.keepP k6 p6, lp5.keep k6 (frP h5.p), t6⟩⟩
    cases hm : movesB tg with
    | true =>
      rw [if_pos rfl]
      obtain ⟨xa, rfl, hl⟩ := moves_li hx5 hm
      exact go xa hl
    | false =>
      rw [if_neg (by decide)]
      exact go pl (lp5.more hb5)
  · rintro σ H4 ⟨x, tg, y8', rfl, h4, lp4, hx⟩
    have hb : bnd w ≤ 61 := by
      have : w = 0 ∨ w = 1 ∨ w = 2 := by omega
      rcases this with rfl | rfl | rfl <;> decide
    have hw' : ((w : Int)).toNat = w := Int.toNat_natCast w
    rw [hw'] at h4 hx
    exact law_two hP ok rok sok h4 (hx.more hb) fun H' z9 z10 z11 h' => q H' _ _ _ _ _ _ (h'.keepP (Keep.refl _ _) (h'.p.mono (by omega)))
end

theorem pl_get {ys : List Str} {i : Nat} (h : i < ys.length) : (ys.map V.str)[i]? = some (.str (ys.getD i "")) := by
  rw [List.getElem?_map, List.getElem?_eq_getElem h, List.getD_eq_getElem?_getD, List.getElem?_eq_getElem h]
  rfl
theorem rd_law (K : PySem.W.Frag) {L : List Addr} {P : Addr} (hP : P ∈ L) : ∀ vs H Q E, spLaw K L vs H Q E → run (t_law K (spHeld K) spTownH spRows spDraw spPlan spBent (spAre 61) (spIsPlan 61 L P) (spLPlan 61)) (L2.start N_law vs) H Q := by
  rintro _ H Q _ ⟨a, ns, rfl, hS, hl, htb, q⟩
  show run (t_law K (spHeld K) spTownH spRows spDraw spPlan spBent (spAre 61) (spIsPlan 61 L P) (spLPlan 61)) [some (.ref a), none, none, none, none, none, none, none, none, none, none, none, none] H Q
  unfold t_law
  walk_at "sx"
  refine ⟨a, ns, rfl, hS, hl, fun d c H1 nd nc k1 p1 => ?_⟩
  walk_at "sx"
  refine ⟨d, c, 0, rfl, by decide, p1, fun t H2 T k2 p2 hT ok => ?_⟩
  have tb1' := htb.keep0 k1
  have tb2' := tb1'.keepD k2 (p1.ninL tb1')
  walk_at "sx"
  refine ⟨d, c, t, _, T, rfl, by decide, p2, hT, ok, fun rl H3 rv rs n3 k3 p3 e3 er3 rok => ?_⟩
  have tb3' := tb2'.keepD k3 (p2.ninL tb2')
  have hT3 := hT.keep k3 p2.noTup
  have r5 := rok.l
  have p10 := ok.p10
  have pl1 := ok.p1
  walk_at "sx"
  have nrd : rl ≠ d := p3.neL e3
  refine g_CL (S := [d]) p3.there e3 (nin1 nrd) ⟨fun j H' acc => ∃ os : List Rw, EI (RwAt H') acc os ∧ os.map Rw.w = (rs.take j).map Rw.w ∧ (∀ r ∈ os, r.p ∈ T.places) ∧ (∀ r ∈ os, r.can.length ≤ 5 ∧ ∀ s ∈ r.can, s ∈ T.places) ∧ PenOk H' d c (1100 + 2 * j), fun _ _ _ k => ⟨[], .nil, rfl, fun _ h => (List.not_mem_nil h).elim, fun _ h => (List.not_mem_nil h).elim, (p3.keep k).mono (by omega)⟩, ?_, ?_⟩
  · rintro D j H9 acc R R0 nD hj k9 eD ⟨os, eo, ew, hop, hoc, p9⟩ hR _
    obtain ⟨n1, n2⟩ := p3.new nD
    have hj5 : j < rs.length := by rw [← er3.length]; exact hj
    obtain ⟨r, hr, hx⟩ := ei_got (rws_keepP er3 p3 k9) (List.getElem?_eq_getElem hj)
    have hrm := List.mem_of_getElem? hr
    obtain ⟨c5, cin⟩ := rok.c r hrm
    have e3' : rv.getD j .non = rv[j] := by rw [List.getD_eq_getElem?_getD, List.getElem?_eq_getElem hj]; rfl
    show gName 12 (rv.getD j .non) _ _ _
    rw [e3']
    obtain ⟨pr, ct, er', tp', tc'⟩ := hx
    rw [er']
    have hT9 := hT3.keep k9 p3.noTup
    obtain ⟨ap, ar, as, rdv, g1, g2, g3, g4, g5⟩ := hT9
    walk_at "sx"
    refine g_slT tp' fun s1 HA kA tA => ?_
    have ec : cutV [V.str r.w, .str r.p, .ref ct] none (some 1) = [V.str r.w] := rfl
    rw [ec] at tA
    refine g_ixT (g1.keep kA nin0) (at_lit 0 rfl rfl) (g_ixT (g1.keep kA nin0) (at_lit 0 rfl rfl) (g_lenT (g2.keep kA nin0) ?_))
    rw [List.length_map]
    have p9A := p9.keep kA
    refine ⟨d, c, _, _, rfl, by omega, by omega, by omega, p9A, fun v HB kB pB v0 v1 => ?_⟩
    have ntA := p9A.noTup
    obtain ⟨w, hw⟩ : ∃ w : Nat, v = w := ⟨v.toNat, by omega⟩
    subst hw
    have g2B := (g2.keep kA nin0).keep kB (ntA _ _ (g2.keep kA nin0))
    refine g_ixT g2B (at_lit w rfl (pl_get (by omega))) ?_
    have tpB := (tp'.keep kA nin0).keep kB (ntA _ _ (tp'.keep kA nin0))
    have tcB := (tc'.keep kA nin0).keep kB (ntA _ _ (tc'.keep kA nin0))
    have tAB := tA.keep kB (ntA _ _ tA)
    refine g_ixT tpB (at_lit 2 rfl rfl) ⟨d, c, 2, _, rfl, by decide, by decide, by omega, pB, fun u HC kC pC u0 u1 => ?_⟩
    have tcC := tcB.keep kC (pB.noTup _ _ tcB)
    have tAC := tAB.keep kC (pB.noTup _ _ tAB)
    refine ⟨u, rfl, g_slT tcC fun s2 HD kD tD => ?_⟩
    obtain ⟨zs, ez, lz, mz⟩ := cutS_map (ys := r.can) (lo := some u) (hi := none)
    rw [ez] at tD
    refine ⟨by walk_at "sz", fun s3 HE nE kE tE => g_addT ((tAC.keep kD nin0).keep kE nin0) tE (by walk_at "sz") fun z HF kF tF => ?_⟩
    have kAF : Keep [d] H9 HF := kA.all.trans (kB.trans (kC.trans ((kD.trans kE).trans kF).all))
    have hpin : T.places.getD w "" ∈ T.places := by
      rw [List.getD_eq_getElem?_getD, List.getElem?_eq_getElem (show w < T.places.length by omega)]
      exact List.getElem_mem _
    refine hR _ _ kAF (by rw [eo.length, ← List.length_map (f := Rw.w), ew, List.length_map, List.length_take]; exact len_lt (by omega)) fun HG kG => ⟨os ++ [⟨r.w, T.places.getD w "", zs⟩], ?_, ?_, fun x hx => ?_, fun x hx => ?_, ((((pC.keep kD).keep kE).keep kF).keepL kG n1 n2).mono (by omega)⟩
    · have nDd : D ≠ d := n1.symm
      have eDD : HF D = some (.lst acc) := kAF _ _ (nin1 nDd) eD
      have ntD : NoTup [D] HF := noTup1 eDD
      have tDF := (tD.keep kE nin0).keep kF nin0
      exact ei_snoc (R := RwAt HG) (r := ⟨r.w, T.places.getD w "", zs⟩) ⟨z, s2, rfl, tF.keep kG (ntD _ _ tF), tDF.keep kG (ntD _ _ tDF)⟩ (rws_keep (rws_keep eo kAF p9.noTup) kG ntD)
    · rw [List.map_append, ew, List.take_succ, hr, List.map_append]
      rfl
    · rcases List.mem_append.mp hx with hx | hx
      · exact hop x hx
      · rw [List.mem_singleton.mp hx]; exact hpin
    · rcases List.mem_append.mp hx with hx | hx
      · exact hoc x hx
      · rw [List.mem_singleton.mp hx]; exact ⟨Nat.le_trans lz c5, fun s hs => cin s (mz s hs)⟩
  · rintro ol H4 acc nol k4 eol ⟨os, eo, ew, hop, hoc, p4⟩
    rw [er3.length, List.take_length] at ew
    have lo : os.length = rs.length := by rw [← List.length_map (f := Rw.w), ew, List.length_map]
    have inw : ∀ r ∈ os, ∃ u ∈ rs, u.w = r.w := fun r hr => List.mem_map.mp (by rw [← ew]; exact List.mem_map.mpr ⟨r, hr, rfl⟩)
    have sok : RsOk T os := ⟨by omega, by rw [ew]; exact rok.nd, fun r hr => let ⟨u, hu, e⟩ := inw r hr; e ▸ rok.nm u hu, fun r hr => let ⟨u, hu, e⟩ := inw r hr; e ▸ rok.ne u hu, hop, hoc⟩
    have st : LSt L H4 d c t rl ol T rs os (1100 + 2 * rv.length) := ⟨p4, hT3.keep k4 p3.noTup, ⟨rv, k4 _ _ (nin1 nrd) e3, rws_keepP er3 p3 k4⟩, ⟨acc, eol, eo⟩, tb3'.keepD k4 (p3.ninL tb3')⟩
    have lrv := er3.length
    walk_at "sx"
    refine g_FR1 (by omega) (by omega) ⟨fun j σ H' => ∃ y5 y6 y7 y8 y9 y10 y11 y12 : Option V, σ = [some (.ref a), some (.ref d), some (.ref t), some (.ref rl), some (.ref ol), y5, y6, y7, y8, y9, y10, y11, y12] ∧ LSt L H' d c t rl ol T rs os (1100 + 2 * rv.length + 50 * j), ⟨_, _, _, _, _, _, _, _, rfl, st⟩, ?_, ?_⟩
    · rintro j σ H5 hj ⟨y5, y6, y7, y8, y9, y10, y11, y12, rfl, h5⟩
      have hj8 : j < 8 := hj
      walk_at "sx"
      exact law_three hP ok rok sok (by omega) h5 fun H' z6 z7 z8 z9 z10 z11 h' => ⟨_, _, _, _, _, _, _, _, rfl, h'.keepP (Keep.refl _ _) (h'.p.mono (by omega))⟩
    · rintro σ H5 ⟨y5, y6, y7, y8, y9, y10, y11, y12, rfl, h5⟩
      unfold t_law_r3
      walk_at "sx"
      exact q H5

theorem all_mk {P q : Program} {w : World} {K : PySem.W.Frag} {h : Heap} {mg : Str → Option Value} {fa : Addr} (X : K.In h) (G : h.Ns mainGlobals mg) (hfa : mg "law" = some (.ref fa))
    {a__is_move tc__is_move P__is_move : Addr} {od__is_move an__is_move : Option Addr} {sl__is_move : Array (Option Value)} {oc__is_move kV__is_move dc__is_move pm__is_move ct__is_move : Value}
    (ad__is_move : PySem.W.nsIn K mainGlobals "_is_move" = some (some (.ref a__is_move)))
    (lo__is_move : K.lookup a__is_move = some ⟨oc__is_move, od__is_move, .func (PySem.W.fnOf "_is_move" "_is_move" (defArgs s__is_move_) (defBody s__is_move_) (defScope s__is_move_) .none kV__is_move dc__is_move pm__is_move an__is_move (.ref tc__is_move) ct__is_move), sl__is_move⟩)
    (co__is_move : PySem.W.codeIn K (.ref tc__is_move) "_is_move" = true) (kp__is_move : PySem.W.keepIn K (.ref a__is_move) = true)
    (tb__is_move : tabIn K tc__is_move = some P__is_move) (re__is_move : ((recsOf q).any fun e => e.name == "_is_move") = true)
    {a_is_plan tc_is_plan P_is_plan : Addr} {od_is_plan an_is_plan : Option Addr} {sl_is_plan : Array (Option Value)} {oc_is_plan kV_is_plan dc_is_plan pm_is_plan ct_is_plan : Value}
    (ad_is_plan : PySem.W.nsIn K mainGlobals "is_plan" = some (some (.ref a_is_plan)))
    (lo_is_plan : K.lookup a_is_plan = some ⟨oc_is_plan, od_is_plan, .func (PySem.W.fnOf "is_plan" "is_plan" (defArgs s_is_plan_) (defBody s_is_plan_) (defScope s_is_plan_) .none kV_is_plan dc_is_plan pm_is_plan an_is_plan (.ref tc_is_plan) ct_is_plan), sl_is_plan⟩)
    (co_is_plan : PySem.W.codeIn K (.ref tc_is_plan) "is_plan" = true) (kp_is_plan : PySem.W.keepIn K (.ref a_is_plan) = true)
    (tb_is_plan : tabIn K tc_is_plan = some P_is_plan) (re_is_plan : ((recsOf q).any fun e => e.name == "is_plan") = true)
    {a__law_held : Addr} {od__law_held an__law_held : Option Addr} {sl__law_held : Array (Option Value)} {oc__law_held kV__law_held dc__law_held pm__law_held cd__law_held ct__law_held : Value}
    (ad__law_held : PySem.W.nsIn K mainGlobals "_law_held" = some (some (.ref a__law_held)))
    (lo__law_held : K.lookup a__law_held = some ⟨oc__law_held, od__law_held, .func (PySem.W.fnOf "_law_held" "_law_held" (defArgs s__law_held_) (defBody s__law_held_) (defScope s__law_held_) .none kV__law_held dc__law_held pm__law_held an__law_held cd__law_held ct__law_held), sl__law_held⟩)
    (co__law_held : PySem.W.codeIn K cd__law_held "_law_held" = true) (kp__law_held : PySem.W.keepIn K (.ref a__law_held) = true)
    {a__law_draw : Addr} {od__law_draw an__law_draw : Option Addr} {sl__law_draw : Array (Option Value)} {oc__law_draw kV__law_draw dc__law_draw pm__law_draw cd__law_draw ct__law_draw : Value}
    (ad__law_draw : PySem.W.nsIn K mainGlobals "_law_draw" = some (some (.ref a__law_draw)))
    (lo__law_draw : K.lookup a__law_draw = some ⟨oc__law_draw, od__law_draw, .func (PySem.W.fnOf "_law_draw" "_law_draw" (defArgs s__law_draw_) (defBody s__law_draw_) (defScope s__law_draw_) .none kV__law_draw dc__law_draw pm__law_draw an__law_draw cd__law_draw ct__law_draw), sl__law_draw⟩)
    (co__law_draw : PySem.W.codeIn K cd__law_draw "_law_draw" = true) (kp__law_draw : PySem.W.keepIn K (.ref a__law_draw) = true)
    {a__law_some : Addr} {od__law_some an__law_some : Option Addr} {sl__law_some : Array (Option Value)} {oc__law_some kV__law_some dc__law_some pm__law_some cd__law_some ct__law_some : Value}
    (ad__law_some : PySem.W.nsIn K mainGlobals "_law_some" = some (some (.ref a__law_some)))
    (lo__law_some : K.lookup a__law_some = some ⟨oc__law_some, od__law_some, .func (PySem.W.fnOf "_law_some" "_law_some" (defArgs s__law_some_) (defBody s__law_some_) (defScope s__law_some_) .none kV__law_some dc__law_some pm__law_some an__law_some cd__law_some ct__law_some), sl__law_some⟩)
    (co__law_some : PySem.W.codeIn K cd__law_some "_law_some" = true) (kp__law_some : PySem.W.keepIn K (.ref a__law_some) = true)
    {a__law_names : Addr} {od__law_names an__law_names : Option Addr} {sl__law_names : Array (Option Value)} {oc__law_names kV__law_names dc__law_names pm__law_names cd__law_names ct__law_names : Value}
    (ad__law_names : PySem.W.nsIn K mainGlobals "_law_names" = some (some (.ref a__law_names)))
    (lo__law_names : K.lookup a__law_names = some ⟨oc__law_names, od__law_names, .func (PySem.W.fnOf "_law_names" "_law_names" (defArgs s__law_names_) (defBody s__law_names_) (defScope s__law_names_) .none kV__law_names dc__law_names pm__law_names an__law_names cd__law_names ct__law_names), sl__law_names⟩)
    (co__law_names : PySem.W.codeIn K cd__law_names "_law_names" = true) (kp__law_names : PySem.W.keepIn K (.ref a__law_names) = true)
    {a__law_minutes : Addr} {od__law_minutes an__law_minutes : Option Addr} {sl__law_minutes : Array (Option Value)} {oc__law_minutes kV__law_minutes dc__law_minutes pm__law_minutes cd__law_minutes ct__law_minutes : Value}
    (ad__law_minutes : PySem.W.nsIn K mainGlobals "_law_minutes" = some (some (.ref a__law_minutes)))
    (lo__law_minutes : K.lookup a__law_minutes = some ⟨oc__law_minutes, od__law_minutes, .func (PySem.W.fnOf "_law_minutes" "_law_minutes" (defArgs s__law_minutes_) (defBody s__law_minutes_) (defScope s__law_minutes_) .none kV__law_minutes dc__law_minutes pm__law_minutes an__law_minutes cd__law_minutes ct__law_minutes), sl__law_minutes⟩)
    (co__law_minutes : PySem.W.codeIn K cd__law_minutes "_law_minutes" = true) (kp__law_minutes : PySem.W.keepIn K (.ref a__law_minutes) = true)
    {a__law_town : Addr} {od__law_town an__law_town : Option Addr} {sl__law_town : Array (Option Value)} {oc__law_town kV__law_town dc__law_town pm__law_town cd__law_town ct__law_town : Value}
    (ad__law_town : PySem.W.nsIn K mainGlobals "_law_town" = some (some (.ref a__law_town)))
    (lo__law_town : K.lookup a__law_town = some ⟨oc__law_town, od__law_town, .func (PySem.W.fnOf "_law_town" "_law_town" (defArgs s__law_town_) (defBody s__law_town_) (defScope s__law_town_) .none kV__law_town dc__law_town pm__law_town an__law_town cd__law_town ct__law_town), sl__law_town⟩)
    (co__law_town : PySem.W.codeIn K cd__law_town "_law_town" = true) (kp__law_town : PySem.W.keepIn K (.ref a__law_town) = true)
    {a__law_rows : Addr} {od__law_rows an__law_rows : Option Addr} {sl__law_rows : Array (Option Value)} {oc__law_rows kV__law_rows dc__law_rows pm__law_rows cd__law_rows ct__law_rows : Value}
    (ad__law_rows : PySem.W.nsIn K mainGlobals "_law_rows" = some (some (.ref a__law_rows)))
    (lo__law_rows : K.lookup a__law_rows = some ⟨oc__law_rows, od__law_rows, .func (PySem.W.fnOf "_law_rows" "_law_rows" (defArgs s__law_rows_) (defBody s__law_rows_) (defScope s__law_rows_) .none kV__law_rows dc__law_rows pm__law_rows an__law_rows cd__law_rows ct__law_rows), sl__law_rows⟩)
    (co__law_rows : PySem.W.codeIn K cd__law_rows "_law_rows" = true) (kp__law_rows : PySem.W.keepIn K (.ref a__law_rows) = true)
    {a__law_plan_by : Addr} {od__law_plan_by an__law_plan_by : Option Addr} {sl__law_plan_by : Array (Option Value)} {oc__law_plan_by kV__law_plan_by dc__law_plan_by pm__law_plan_by cd__law_plan_by ct__law_plan_by : Value}
    (ad__law_plan_by : PySem.W.nsIn K mainGlobals "_law_plan_by" = some (some (.ref a__law_plan_by)))
    (lo__law_plan_by : K.lookup a__law_plan_by = some ⟨oc__law_plan_by, od__law_plan_by, .func (PySem.W.fnOf "_law_plan_by" "_law_plan_by" (defArgs s__law_plan_by_) (defBody s__law_plan_by_) (defScope s__law_plan_by_) .none kV__law_plan_by dc__law_plan_by pm__law_plan_by an__law_plan_by cd__law_plan_by ct__law_plan_by), sl__law_plan_by⟩)
    (co__law_plan_by : PySem.W.codeIn K cd__law_plan_by "_law_plan_by" = true) (kp__law_plan_by : PySem.W.keepIn K (.ref a__law_plan_by) = true)
    {a__law_is_plan : Addr} {od__law_is_plan an__law_is_plan : Option Addr} {sl__law_is_plan : Array (Option Value)} {oc__law_is_plan kV__law_is_plan dc__law_is_plan pm__law_is_plan cd__law_is_plan ct__law_is_plan : Value}
    (ad__law_is_plan : PySem.W.nsIn K mainGlobals "_law_is_plan" = some (some (.ref a__law_is_plan)))
    (lo__law_is_plan : K.lookup a__law_is_plan = some ⟨oc__law_is_plan, od__law_is_plan, .func (PySem.W.fnOf "_law_is_plan" "_law_is_plan" (defArgs s__law_is_plan_) (defBody s__law_is_plan_) (defScope s__law_is_plan_) .none kV__law_is_plan dc__law_is_plan pm__law_is_plan an__law_is_plan cd__law_is_plan ct__law_is_plan), sl__law_is_plan⟩)
    (co__law_is_plan : PySem.W.codeIn K cd__law_is_plan "_law_is_plan" = true) (kp__law_is_plan : PySem.W.keepIn K (.ref a__law_is_plan) = true)
    {a__law_bent : Addr} {od__law_bent an__law_bent : Option Addr} {sl__law_bent : Array (Option Value)} {oc__law_bent kV__law_bent dc__law_bent pm__law_bent cd__law_bent ct__law_bent : Value}
    (ad__law_bent : PySem.W.nsIn K mainGlobals "_law_bent" = some (some (.ref a__law_bent)))
    (lo__law_bent : K.lookup a__law_bent = some ⟨oc__law_bent, od__law_bent, .func (PySem.W.fnOf "_law_bent" "_law_bent" (defArgs s__law_bent_) (defBody s__law_bent_) (defScope s__law_bent_) .none kV__law_bent dc__law_bent pm__law_bent an__law_bent cd__law_bent ct__law_bent), sl__law_bent⟩)
    (co__law_bent : PySem.W.codeIn K cd__law_bent "_law_bent" = true) (kp__law_bent : PySem.W.keepIn K (.ref a__law_bent) = true)
    {a__law_are_moves : Addr} {od__law_are_moves an__law_are_moves : Option Addr} {sl__law_are_moves : Array (Option Value)} {oc__law_are_moves kV__law_are_moves dc__law_are_moves pm__law_are_moves cd__law_are_moves ct__law_are_moves : Value}
    (ad__law_are_moves : PySem.W.nsIn K mainGlobals "_law_are_moves" = some (some (.ref a__law_are_moves)))
    (lo__law_are_moves : K.lookup a__law_are_moves = some ⟨oc__law_are_moves, od__law_are_moves, .func (PySem.W.fnOf "_law_are_moves" "_law_are_moves" (defArgs s__law_are_moves_) (defBody s__law_are_moves_) (defScope s__law_are_moves_) .none kV__law_are_moves dc__law_are_moves pm__law_are_moves an__law_are_moves cd__law_are_moves ct__law_are_moves), sl__law_are_moves⟩)
    (co__law_are_moves : PySem.W.codeIn K cd__law_are_moves "_law_are_moves" = true) (kp__law_are_moves : PySem.W.keepIn K (.ref a__law_are_moves) = true)
    {a_law : Addr} {od_law an_law : Option Addr} {sl_law : Array (Option Value)} {oc_law kV_law dc_law pm_law cd_law ct_law : Value}
    (ad_law : PySem.W.nsIn K mainGlobals "law" = some (some (.ref a_law)))
    (lo_law : K.lookup a_law = some ⟨oc_law, od_law, .func (PySem.W.fnOf "law" "law" (defArgs s_law_) (defBody s_law_) (defScope s_law_) .none kV_law dc_law pm_law an_law cd_law ct_law), sl_law⟩)
    (co_law : PySem.W.codeIn K cd_law "law" = true) (kp_law : PySem.W.keepIn K (.ref a_law) = true)
    (no_isinstance : PySem.W.nsIn K mainGlobals "isinstance" = some none)
    (no_tuple : PySem.W.nsIn K mainGlobals "tuple" = some none)
    (no_len : PySem.W.nsIn K mainGlobals "len" = some none)
    (no_any : PySem.W.nsIn K mainGlobals "any" = some none)
    (no_list : PySem.W.nsIn K mainGlobals "list" = some none)
    (no_all : PySem.W.nsIn K mainGlobals "all" = some none)
    (no_zip : PySem.W.nsIn K mainGlobals "zip" = some none)
    (no_range : PySem.W.nsIn K mainGlobals "range" = some none)
    (no_int : PySem.W.nsIn K mainGlobals "int" = some none)
    (no_max : PySem.W.nsIn K mainGlobals "max" = some none)
    (no_min : PySem.W.nsIn K mainGlobals "min" = some none)
    (no_sorted : PySem.W.nsIn K mainGlobals "sorted" = some none)
    (no_str : PySem.W.nsIn K mainGlobals "str" = some none)
    (no_repr : PySem.W.nsIn K mainGlobals "repr" = some none)
    (no_bool : PySem.W.nsIn K mainGlobals "bool" = some none)
    : ∃ (fd : FuncData) (ts : List (Str × Addr × Addr)), (∀ t ∈ ts, TabDef q K mg t) ∧ (∀ (s : Shared) (u : Value), BindsTo s fd ⟨[u], []⟩ [("script", u)]) ∧ ∀ b : Heap, K.In b → b.Ns mainGlobals mg → (∀ t ∈ ts, GxR.TabB b mg t.2.1 t.2.2) → Keeps P w K mg b CX0 6 fa fd ["script"] (spLaw K (ts.map fun t => t.2.2)) := by
  have e := hfa.symm.trans (PySem.W.mg_of X G ad_law)
  cases e
  have f__is_move := fun_mk (st := s__is_move_) lo__is_move co__is_move kp__is_move
  have F__is_move : Fn K mg "_is_move" s__is_move_ _ _ ["rows", "thing"] := ⟨f__is_move, PySem.W.mg_of X G ad__is_move, f__is_move.binds (ps := ["rows", "thing"]) fun _ _ _ _ _ _ us hl => match us, hl with | [_, _], _ => rfl⟩
  have f_is_plan := fun_mk (st := s_is_plan_) lo_is_plan co_is_plan kp_is_plan
  have F_is_plan : Fn K mg "is_plan" s_is_plan_ _ _ ["town", "rows", "thing"] := ⟨f_is_plan, PySem.W.mg_of X G ad_is_plan, f_is_plan.binds (ps := ["town", "rows", "thing"]) fun _ _ _ _ _ _ us hl => match us, hl with | [_, _, _], _ => rfl⟩
  have f__law_held := fun_mk (st := s__law_held_) lo__law_held co__law_held kp__law_held
  have F__law_held : Fn K mg "_law_held" s__law_held_ _ _ ["script"] := ⟨f__law_held, PySem.W.mg_of X G ad__law_held, f__law_held.binds (ps := ["script"]) fun _ _ _ _ _ _ us hl => match us, hl with | [_], _ => rfl⟩
  have f__law_draw := fun_mk (st := s__law_draw_) lo__law_draw co__law_draw kp__law_draw
  have F__law_draw : Fn K mg "_law_draw" s__law_draw_ _ _ ["held", "many"] := ⟨f__law_draw, PySem.W.mg_of X G ad__law_draw, f__law_draw.binds (ps := ["held", "many"]) fun _ _ _ _ _ _ us hl => match us, hl with | [_, _], _ => rfl⟩
  have f__law_some := fun_mk (st := s__law_some_) lo__law_some co__law_some kp__law_some
  have F__law_some : Fn K mg "_law_some" s__law_some_ _ _ ["held", "things", "many"] := ⟨f__law_some, PySem.W.mg_of X G ad__law_some, f__law_some.binds (ps := ["held", "things", "many"]) fun _ _ _ _ _ _ us hl => match us, hl with | [_, _, _], _ => rfl⟩
  have f__law_names := fun_mk (st := s__law_names_) lo__law_names co__law_names kp__law_names
  have F__law_names : Fn K mg "_law_names" s__law_names_ _ _ ["held", "many"] := ⟨f__law_names, PySem.W.mg_of X G ad__law_names, f__law_names.binds (ps := ["held", "many"]) fun _ _ _ _ _ _ us hl => match us, hl with | [_, _], _ => rfl⟩
  have f__law_minutes := fun_mk (st := s__law_minutes_) lo__law_minutes co__law_minutes kp__law_minutes
  have F__law_minutes : Fn K mg "_law_minutes" s__law_minutes_ _ _ ["held"] := ⟨f__law_minutes, PySem.W.mg_of X G ad__law_minutes, f__law_minutes.binds (ps := ["held"]) fun _ _ _ _ _ _ us hl => match us, hl with | [_], _ => rfl⟩
  have f__law_town := fun_mk (st := s__law_town_) lo__law_town co__law_town kp__law_town
  have F__law_town : Fn K mg "_law_town" s__law_town_ _ _ ["held"] := ⟨f__law_town, PySem.W.mg_of X G ad__law_town, f__law_town.binds (ps := ["held"]) fun _ _ _ _ _ _ us hl => match us, hl with | [_], _ => rfl⟩
  have f__law_rows := fun_mk (st := s__law_rows_) lo__law_rows co__law_rows kp__law_rows
  have F__law_rows : Fn K mg "_law_rows" s__law_rows_ _ _ ["held", "town"] := ⟨f__law_rows, PySem.W.mg_of X G ad__law_rows, f__law_rows.binds (ps := ["held", "town"]) fun _ _ _ _ _ _ us hl => match us, hl with | [_, _], _ => rfl⟩
  have f__law_plan_by := fun_mk (st := s__law_plan_by_) lo__law_plan_by co__law_plan_by kp__law_plan_by
  have F__law_plan_by : Fn K mg "_law_plan_by" s__law_plan_by_ _ _ ["held", "rows"] := ⟨f__law_plan_by, PySem.W.mg_of X G ad__law_plan_by, f__law_plan_by.binds (ps := ["held", "rows"]) fun _ _ _ _ _ _ us hl => match us, hl with | [_, _], _ => rfl⟩
  have f__law_is_plan := fun_mk (st := s__law_is_plan_) lo__law_is_plan co__law_is_plan kp__law_is_plan
  have F__law_is_plan : Fn K mg "_law_is_plan" s__law_is_plan_ _ _ ["rows", "thing"] := ⟨f__law_is_plan, PySem.W.mg_of X G ad__law_is_plan, f__law_is_plan.binds (ps := ["rows", "thing"]) fun _ _ _ _ _ _ us hl => match us, hl with | [_, _], _ => rfl⟩
  have f__law_bent := fun_mk (st := s__law_bent_) lo__law_bent co__law_bent kp__law_bent
  have F__law_bent : Fn K mg "_law_bent" s__law_bent_ _ _ ["held", "town", "rows", "plan"] := ⟨f__law_bent, PySem.W.mg_of X G ad__law_bent, f__law_bent.binds (ps := ["held", "town", "rows", "plan"]) fun _ _ _ _ _ _ us hl => match us, hl with | [_, _, _, _], _ => rfl⟩
  have f__law_are_moves := fun_mk (st := s__law_are_moves_) lo__law_are_moves co__law_are_moves kp__law_are_moves
  have F__law_are_moves : Fn K mg "_law_are_moves" s__law_are_moves_ _ _ ["thing"] := ⟨f__law_are_moves, PySem.W.mg_of X G ad__law_are_moves, f__law_are_moves.binds (ps := ["thing"]) fun _ _ _ _ _ _ us hl => match us, hl with | [_], _ => rfl⟩
  have f_law := fun_mk (st := s_law_) lo_law co_law kp_law
  have F_law : Fn K mg "law" s_law_ _ _ ["script"] := ⟨f_law, PySem.W.mg_of X G ad_law, f_law.binds (ps := ["script"]) fun _ _ _ _ _ _ us hl => match us, hl with | [_], _ => rfl⟩
  refine ⟨PySem.W.fnOf "law" "law" (defArgs s_law_) (defBody s_law_) (defScope s_law_) .none kV_law dc_law pm_law an_law cd_law ct_law, [("_is_move", tc__is_move, P__is_move), ("is_plan", tc_is_plan, P_is_plan)], ?_, fun s v => .of_eq rfl, fun b _ _ TBs => ?_⟩
  · intro t ht
    simp only [List.mem_cons, List.not_mem_nil, or_false] at ht
    rcases ht with rfl | rfl
    · exact ⟨re__is_move, ⟨_, _, _, PySem.W.mg_of X G ad__is_move, lo__is_move, rfl, rfl⟩, tb__is_move⟩
    · exact ⟨re_is_plan, ⟨_, _, _, PySem.W.mg_of X G ad_is_plan, lo_is_plan, rfl, rfl⟩, tb_is_plan⟩
  have TB__is_move := TBs ("_is_move", tc__is_move, P__is_move) (by simp)
  have TB_is_plan := TBs ("is_plan", tc_is_plan, P_is_plan) (by simp)
  have k__is_move := dv__is_move (P := P) (w := w) (b := b) (mg := mg) (sp := spMove [P__is_move, P_is_plan] P__is_move) F__is_move rfl TB__is_move (PySem.W.mg_none_of X G no_isinstance) (PySem.W.mg_none_of X G no_tuple) (PySem.W.mg_none_of X G no_len) (PySem.W.mg_none_of X G no_any) (by intro vs H Q E h; first | (obtain ⟨_, rfl, _⟩ := h; rfl) | (obtain ⟨_, _, rfl, _⟩ := h; rfl) | (obtain ⟨_, _, _, rfl, _⟩ := h; rfl) | (obtain ⟨_, _, _, _, rfl, _⟩ := h; rfl) | (obtain ⟨_, _, _, _, _, rfl, _⟩ := h; rfl) | (obtain ⟨_, _, _, _, _, _, rfl, _⟩ := h; rfl) | (obtain ⟨_, _, _, _, _, _, _, rfl, _⟩ := h; rfl) | (obtain ⟨_, _, _, _, _, _, _, _, rfl, _⟩ := h; rfl) | (obtain ⟨_, _, _, _, _, _, _, _, _, rfl, _⟩ := h; rfl) | (obtain ⟨_, _, _, _, _, _, _, _, _, _, rfl, _⟩ := h; rfl) | (obtain ⟨_, _, _, _, _, _, _, _, _, _, _, rfl, _⟩ := h; rfl) | (obtain ⟨_, _, _, _, _, _, _, _, _, _, _, _, rfl, _⟩ := h; rfl) | (obtain ⟨_, _, _, _, _, _, _, _, _, _, _, _, _, rfl, _⟩ := h; rfl) | (obtain ⟨_, _, _, _, _, _, _, _, _, _, _, _, _, _, rfl, _⟩ := h; rfl)) (rd_move K (L := [P__is_move, P_is_plan]) (P := P__is_move))
  have k_is_plan := dv_is_plan (P := P) (w := w) (b := b) (mg := mg) (sp := spIsPlan 61 [P__is_move, P_is_plan] P_is_plan) F_is_plan rfl TB_is_plan (PySem.W.mg_none_of X G no_isinstance) (PySem.W.mg_none_of X G no_list) (PySem.W.mg_none_of X G no_all) F__is_move k__is_move (PySem.W.mg_none_of X G no_zip) (by intro vs H Q E h; first | (obtain ⟨_, rfl, _⟩ := h; rfl) | (obtain ⟨_, _, rfl, _⟩ := h; rfl) | (obtain ⟨_, _, _, rfl, _⟩ := h; rfl) | (obtain ⟨_, _, _, _, rfl, _⟩ := h; rfl) | (obtain ⟨_, _, _, _, _, rfl, _⟩ := h; rfl) | (obtain ⟨_, _, _, _, _, _, rfl, _⟩ := h; rfl) | (obtain ⟨_, _, _, _, _, _, _, rfl, _⟩ := h; rfl) | (obtain ⟨_, _, _, _, _, _, _, _, rfl, _⟩ := h; rfl) | (obtain ⟨_, _, _, _, _, _, _, _, _, rfl, _⟩ := h; rfl) | (obtain ⟨_, _, _, _, _, _, _, _, _, _, rfl, _⟩ := h; rfl) | (obtain ⟨_, _, _, _, _, _, _, _, _, _, _, rfl, _⟩ := h; rfl) | (obtain ⟨_, _, _, _, _, _, _, _, _, _, _, _, rfl, _⟩ := h; rfl) | (obtain ⟨_, _, _, _, _, _, _, _, _, _, _, _, _, rfl, _⟩ := h; rfl) | (obtain ⟨_, _, _, _, _, _, _, _, _, _, _, _, _, _, rfl, _⟩ := h; rfl)) (rd_isPlan K (n := 61) (L := [P__is_move, P_is_plan]) (P := P_is_plan) (P' := P__is_move) (by decide) (by simp))
  have k__law_held := dv__law_held (P := P) (w := w) (b := b) (mg := mg) (sp := spHeld K) F__law_held (PySem.W.mg_none_of X G no_list) (by intro vs H Q E h; first | (obtain ⟨_, rfl, _⟩ := h; rfl) | (obtain ⟨_, _, rfl, _⟩ := h; rfl) | (obtain ⟨_, _, _, rfl, _⟩ := h; rfl) | (obtain ⟨_, _, _, _, rfl, _⟩ := h; rfl) | (obtain ⟨_, _, _, _, _, rfl, _⟩ := h; rfl) | (obtain ⟨_, _, _, _, _, _, rfl, _⟩ := h; rfl) | (obtain ⟨_, _, _, _, _, _, _, rfl, _⟩ := h; rfl) | (obtain ⟨_, _, _, _, _, _, _, _, rfl, _⟩ := h; rfl) | (obtain ⟨_, _, _, _, _, _, _, _, _, rfl, _⟩ := h; rfl) | (obtain ⟨_, _, _, _, _, _, _, _, _, _, rfl, _⟩ := h; rfl) | (obtain ⟨_, _, _, _, _, _, _, _, _, _, _, rfl, _⟩ := h; rfl) | (obtain ⟨_, _, _, _, _, _, _, _, _, _, _, _, rfl, _⟩ := h; rfl) | (obtain ⟨_, _, _, _, _, _, _, _, _, _, _, _, _, rfl, _⟩ := h; rfl) | (obtain ⟨_, _, _, _, _, _, _, _, _, _, _, _, _, _, rfl, _⟩ := h; rfl)) (rd_held K)
  have k__law_draw := dv__law_draw (P := P) (w := w) (b := b) (mg := mg) (sp := spDraw) F__law_draw (PySem.W.mg_none_of X G no_len) (by intro vs H Q E h; first | (obtain ⟨_, rfl, _⟩ := h; rfl) | (obtain ⟨_, _, rfl, _⟩ := h; rfl) | (obtain ⟨_, _, _, rfl, _⟩ := h; rfl) | (obtain ⟨_, _, _, _, rfl, _⟩ := h; rfl) | (obtain ⟨_, _, _, _, _, rfl, _⟩ := h; rfl) | (obtain ⟨_, _, _, _, _, _, rfl, _⟩ := h; rfl) | (obtain ⟨_, _, _, _, _, _, _, rfl, _⟩ := h; rfl) | (obtain ⟨_, _, _, _, _, _, _, _, rfl, _⟩ := h; rfl) | (obtain ⟨_, _, _, _, _, _, _, _, _, rfl, _⟩ := h; rfl) | (obtain ⟨_, _, _, _, _, _, _, _, _, _, rfl, _⟩ := h; rfl) | (obtain ⟨_, _, _, _, _, _, _, _, _, _, _, rfl, _⟩ := h; rfl) | (obtain ⟨_, _, _, _, _, _, _, _, _, _, _, _, rfl, _⟩ := h; rfl) | (obtain ⟨_, _, _, _, _, _, _, _, _, _, _, _, _, rfl, _⟩ := h; rfl) | (obtain ⟨_, _, _, _, _, _, _, _, _, _, _, _, _, _, rfl, _⟩ := h; rfl)) (rd_draw K)
  have k__law_some := dv__law_some (P := P) (w := w) (b := b) (mg := mg) (sp := spSome) F__law_some (PySem.W.mg_none_of X G no_list) (PySem.W.mg_none_of X G no_range) F__law_draw k__law_draw (PySem.W.mg_none_of X G no_len) (by intro vs H Q E h; first | (obtain ⟨_, rfl, _⟩ := h; rfl) | (obtain ⟨_, _, rfl, _⟩ := h; rfl) | (obtain ⟨_, _, _, rfl, _⟩ := h; rfl) | (obtain ⟨_, _, _, _, rfl, _⟩ := h; rfl) | (obtain ⟨_, _, _, _, _, rfl, _⟩ := h; rfl) | (obtain ⟨_, _, _, _, _, _, rfl, _⟩ := h; rfl) | (obtain ⟨_, _, _, _, _, _, _, rfl, _⟩ := h; rfl) | (obtain ⟨_, _, _, _, _, _, _, _, rfl, _⟩ := h; rfl) | (obtain ⟨_, _, _, _, _, _, _, _, _, rfl, _⟩ := h; rfl) | (obtain ⟨_, _, _, _, _, _, _, _, _, _, rfl, _⟩ := h; rfl) | (obtain ⟨_, _, _, _, _, _, _, _, _, _, _, rfl, _⟩ := h; rfl) | (obtain ⟨_, _, _, _, _, _, _, _, _, _, _, _, rfl, _⟩ := h; rfl) | (obtain ⟨_, _, _, _, _, _, _, _, _, _, _, _, _, rfl, _⟩ := h; rfl) | (obtain ⟨_, _, _, _, _, _, _, _, _, _, _, _, _, _, rfl, _⟩ := h; rfl)) (rd_some K)
  have k__law_names := dv__law_names (P := P) (w := w) (b := b) (mg := mg) (sp := spNamesH) F__law_names F__law_draw k__law_draw (PySem.W.mg_none_of X G no_range) (PySem.W.mg_none_of X G no_int) (by intro vs H Q E h; first | (obtain ⟨_, rfl, _⟩ := h; rfl) | (obtain ⟨_, _, rfl, _⟩ := h; rfl) | (obtain ⟨_, _, _, rfl, _⟩ := h; rfl) | (obtain ⟨_, _, _, _, rfl, _⟩ := h; rfl) | (obtain ⟨_, _, _, _, _, rfl, _⟩ := h; rfl) | (obtain ⟨_, _, _, _, _, _, rfl, _⟩ := h; rfl) | (obtain ⟨_, _, _, _, _, _, _, rfl, _⟩ := h; rfl) | (obtain ⟨_, _, _, _, _, _, _, _, rfl, _⟩ := h; rfl) | (obtain ⟨_, _, _, _, _, _, _, _, _, rfl, _⟩ := h; rfl) | (obtain ⟨_, _, _, _, _, _, _, _, _, _, rfl, _⟩ := h; rfl) | (obtain ⟨_, _, _, _, _, _, _, _, _, _, _, rfl, _⟩ := h; rfl) | (obtain ⟨_, _, _, _, _, _, _, _, _, _, _, _, rfl, _⟩ := h; rfl) | (obtain ⟨_, _, _, _, _, _, _, _, _, _, _, _, _, rfl, _⟩ := h; rfl) | (obtain ⟨_, _, _, _, _, _, _, _, _, _, _, _, _, _, rfl, _⟩ := h; rfl)) (rd_namesH K)
  have k__law_minutes := dv__law_minutes (P := P) (w := w) (b := b) (mg := mg) (sp := spMinutes) F__law_minutes (PySem.W.mg_none_of X G no_range) F__law_draw k__law_draw (by intro vs H Q E h; first | (obtain ⟨_, rfl, _⟩ := h; rfl) | (obtain ⟨_, _, rfl, _⟩ := h; rfl) | (obtain ⟨_, _, _, rfl, _⟩ := h; rfl) | (obtain ⟨_, _, _, _, rfl, _⟩ := h; rfl) | (obtain ⟨_, _, _, _, _, rfl, _⟩ := h; rfl) | (obtain ⟨_, _, _, _, _, _, rfl, _⟩ := h; rfl) | (obtain ⟨_, _, _, _, _, _, _, rfl, _⟩ := h; rfl) | (obtain ⟨_, _, _, _, _, _, _, _, rfl, _⟩ := h; rfl) | (obtain ⟨_, _, _, _, _, _, _, _, _, rfl, _⟩ := h; rfl) | (obtain ⟨_, _, _, _, _, _, _, _, _, _, rfl, _⟩ := h; rfl) | (obtain ⟨_, _, _, _, _, _, _, _, _, _, _, rfl, _⟩ := h; rfl) | (obtain ⟨_, _, _, _, _, _, _, _, _, _, _, _, rfl, _⟩ := h; rfl) | (obtain ⟨_, _, _, _, _, _, _, _, _, _, _, _, _, rfl, _⟩ := h; rfl) | (obtain ⟨_, _, _, _, _, _, _, _, _, _, _, _, _, _, rfl, _⟩ := h; rfl)) (rd_minutes K)
  have k__law_town := dv__law_town (P := P) (w := w) (b := b) (mg := mg) (sp := spTownH) F__law_town F__law_draw k__law_draw F__law_names k__law_names (PySem.W.mg_none_of X G no_range) (PySem.W.mg_none_of X G no_int) (PySem.W.mg_none_of X G no_max) F__law_minutes k__law_minutes F__law_some k__law_some (PySem.W.mg_none_of X G no_min) (PySem.W.mg_none_of X G no_tuple) (by intro vs H Q E h; first | (obtain ⟨_, rfl, _⟩ := h; rfl) | (obtain ⟨_, _, rfl, _⟩ := h; rfl) | (obtain ⟨_, _, _, rfl, _⟩ := h; rfl) | (obtain ⟨_, _, _, _, rfl, _⟩ := h; rfl) | (obtain ⟨_, _, _, _, _, rfl, _⟩ := h; rfl) | (obtain ⟨_, _, _, _, _, _, rfl, _⟩ := h; rfl) | (obtain ⟨_, _, _, _, _, _, _, rfl, _⟩ := h; rfl) | (obtain ⟨_, _, _, _, _, _, _, _, rfl, _⟩ := h; rfl) | (obtain ⟨_, _, _, _, _, _, _, _, _, rfl, _⟩ := h; rfl) | (obtain ⟨_, _, _, _, _, _, _, _, _, _, rfl, _⟩ := h; rfl) | (obtain ⟨_, _, _, _, _, _, _, _, _, _, _, rfl, _⟩ := h; rfl) | (obtain ⟨_, _, _, _, _, _, _, _, _, _, _, _, rfl, _⟩ := h; rfl) | (obtain ⟨_, _, _, _, _, _, _, _, _, _, _, _, _, rfl, _⟩ := h; rfl) | (obtain ⟨_, _, _, _, _, _, _, _, _, _, _, _, _, _, rfl, _⟩ := h; rfl)) (rd_townH K)
  have k__law_rows := dv__law_rows (P := P) (w := w) (b := b) (mg := mg) (sp := spRows) F__law_rows F__law_draw k__law_draw (PySem.W.mg_none_of X G no_sorted) F__law_names k__law_names (PySem.W.mg_none_of X G no_tuple) (PySem.W.mg_none_of X G no_int) (PySem.W.mg_none_of X G no_len) (by intro vs H Q E h; first | (obtain ⟨_, rfl, _⟩ := h; rfl) | (obtain ⟨_, _, rfl, _⟩ := h; rfl) | (obtain ⟨_, _, _, rfl, _⟩ := h; rfl) | (obtain ⟨_, _, _, _, rfl, _⟩ := h; rfl) | (obtain ⟨_, _, _, _, _, rfl, _⟩ := h; rfl) | (obtain ⟨_, _, _, _, _, _, rfl, _⟩ := h; rfl) | (obtain ⟨_, _, _, _, _, _, _, rfl, _⟩ := h; rfl) | (obtain ⟨_, _, _, _, _, _, _, _, rfl, _⟩ := h; rfl) | (obtain ⟨_, _, _, _, _, _, _, _, _, rfl, _⟩ := h; rfl) | (obtain ⟨_, _, _, _, _, _, _, _, _, _, rfl, _⟩ := h; rfl) | (obtain ⟨_, _, _, _, _, _, _, _, _, _, _, rfl, _⟩ := h; rfl) | (obtain ⟨_, _, _, _, _, _, _, _, _, _, _, _, rfl, _⟩ := h; rfl) | (obtain ⟨_, _, _, _, _, _, _, _, _, _, _, _, _, rfl, _⟩ := h; rfl) | (obtain ⟨_, _, _, _, _, _, _, _, _, _, _, _, _, _, rfl, _⟩ := h; rfl)) (rd_rows K)
  have k__law_plan_by := dv__law_plan_by (P := P) (w := w) (b := b) (mg := mg) (sp := spPlan) F__law_plan_by F__law_draw k__law_draw (PySem.W.mg_none_of X G no_len) (by intro vs H Q E h; first | (obtain ⟨_, rfl, _⟩ := h; rfl) | (obtain ⟨_, _, rfl, _⟩ := h; rfl) | (obtain ⟨_, _, _, rfl, _⟩ := h; rfl) | (obtain ⟨_, _, _, _, rfl, _⟩ := h; rfl) | (obtain ⟨_, _, _, _, _, rfl, _⟩ := h; rfl) | (obtain ⟨_, _, _, _, _, _, rfl, _⟩ := h; rfl) | (obtain ⟨_, _, _, _, _, _, _, rfl, _⟩ := h; rfl) | (obtain ⟨_, _, _, _, _, _, _, _, rfl, _⟩ := h; rfl) | (obtain ⟨_, _, _, _, _, _, _, _, _, rfl, _⟩ := h; rfl) | (obtain ⟨_, _, _, _, _, _, _, _, _, _, rfl, _⟩ := h; rfl) | (obtain ⟨_, _, _, _, _, _, _, _, _, _, _, rfl, _⟩ := h; rfl) | (obtain ⟨_, _, _, _, _, _, _, _, _, _, _, _, rfl, _⟩ := h; rfl) | (obtain ⟨_, _, _, _, _, _, _, _, _, _, _, _, _, rfl, _⟩ := h; rfl) | (obtain ⟨_, _, _, _, _, _, _, _, _, _, _, _, _, _, rfl, _⟩ := h; rfl)) (rd_plan K)
  have k__law_is_plan := dv__law_is_plan (P := P) (w := w) (b := b) (mg := mg) (sp := spLPlan 61) F__law_is_plan (PySem.W.mg_none_of X G no_isinstance) (PySem.W.mg_none_of X G no_list) (PySem.W.mg_none_of X G no_tuple) (PySem.W.mg_none_of X G no_len) (PySem.W.mg_none_of X G no_all) (PySem.W.mg_none_of X G no_str) (by intro vs H Q E h; first | (obtain ⟨_, rfl, _⟩ := h; rfl) | (obtain ⟨_, _, rfl, _⟩ := h; rfl) | (obtain ⟨_, _, _, rfl, _⟩ := h; rfl) | (obtain ⟨_, _, _, _, rfl, _⟩ := h; rfl) | (obtain ⟨_, _, _, _, _, rfl, _⟩ := h; rfl) | (obtain ⟨_, _, _, _, _, _, rfl, _⟩ := h; rfl) | (obtain ⟨_, _, _, _, _, _, _, rfl, _⟩ := h; rfl) | (obtain ⟨_, _, _, _, _, _, _, _, rfl, _⟩ := h; rfl) | (obtain ⟨_, _, _, _, _, _, _, _, _, rfl, _⟩ := h; rfl) | (obtain ⟨_, _, _, _, _, _, _, _, _, _, rfl, _⟩ := h; rfl) | (obtain ⟨_, _, _, _, _, _, _, _, _, _, _, rfl, _⟩ := h; rfl) | (obtain ⟨_, _, _, _, _, _, _, _, _, _, _, _, rfl, _⟩ := h; rfl) | (obtain ⟨_, _, _, _, _, _, _, _, _, _, _, _, _, rfl, _⟩ := h; rfl) | (obtain ⟨_, _, _, _, _, _, _, _, _, _, _, _, _, _, rfl, _⟩ := h; rfl)) (rd_lPlan K (n := 61) (by decide))
  have k__law_bent := dv__law_bent (P := P) (w := w) (b := b) (mg := mg) (sp := spBent) F__law_bent F__law_draw k__law_draw (PySem.W.mg_none_of X G no_len) (PySem.W.mg_none_of X G no_sorted) (PySem.W.mg_none_of X G no_tuple) (by intro vs H Q E h; first | (obtain ⟨_, rfl, _⟩ := h; rfl) | (obtain ⟨_, _, rfl, _⟩ := h; rfl) | (obtain ⟨_, _, _, rfl, _⟩ := h; rfl) | (obtain ⟨_, _, _, _, rfl, _⟩ := h; rfl) | (obtain ⟨_, _, _, _, _, rfl, _⟩ := h; rfl) | (obtain ⟨_, _, _, _, _, _, rfl, _⟩ := h; rfl) | (obtain ⟨_, _, _, _, _, _, _, rfl, _⟩ := h; rfl) | (obtain ⟨_, _, _, _, _, _, _, _, rfl, _⟩ := h; rfl) | (obtain ⟨_, _, _, _, _, _, _, _, _, rfl, _⟩ := h; rfl) | (obtain ⟨_, _, _, _, _, _, _, _, _, _, rfl, _⟩ := h; rfl) | (obtain ⟨_, _, _, _, _, _, _, _, _, _, _, rfl, _⟩ := h; rfl) | (obtain ⟨_, _, _, _, _, _, _, _, _, _, _, _, rfl, _⟩ := h; rfl) | (obtain ⟨_, _, _, _, _, _, _, _, _, _, _, _, _, rfl, _⟩ := h; rfl) | (obtain ⟨_, _, _, _, _, _, _, _, _, _, _, _, _, _, rfl, _⟩ := h; rfl)) (rd_bent K)
  have k__law_are_moves := dv__law_are_moves (P := P) (w := w) (b := b) (mg := mg) (sp := spAre 61) F__law_are_moves (PySem.W.mg_none_of X G no_isinstance) (PySem.W.mg_none_of X G no_list) (PySem.W.mg_none_of X G no_all) (PySem.W.mg_none_of X G no_tuple) (PySem.W.mg_none_of X G no_len) (PySem.W.mg_none_of X G no_str) (by intro vs H Q E h; first | (obtain ⟨_, rfl, _⟩ := h; rfl) | (obtain ⟨_, _, rfl, _⟩ := h; rfl) | (obtain ⟨_, _, _, rfl, _⟩ := h; rfl) | (obtain ⟨_, _, _, _, rfl, _⟩ := h; rfl) | (obtain ⟨_, _, _, _, _, rfl, _⟩ := h; rfl) | (obtain ⟨_, _, _, _, _, _, rfl, _⟩ := h; rfl) | (obtain ⟨_, _, _, _, _, _, _, rfl, _⟩ := h; rfl) | (obtain ⟨_, _, _, _, _, _, _, _, rfl, _⟩ := h; rfl) | (obtain ⟨_, _, _, _, _, _, _, _, _, rfl, _⟩ := h; rfl) | (obtain ⟨_, _, _, _, _, _, _, _, _, _, rfl, _⟩ := h; rfl) | (obtain ⟨_, _, _, _, _, _, _, _, _, _, _, rfl, _⟩ := h; rfl) | (obtain ⟨_, _, _, _, _, _, _, _, _, _, _, _, rfl, _⟩ := h; rfl) | (obtain ⟨_, _, _, _, _, _, _, _, _, _, _, _, _, rfl, _⟩ := h; rfl) | (obtain ⟨_, _, _, _, _, _, _, _, _, _, _, _, _, _, rfl, _⟩ := h; rfl)) (rd_are K (n := 61) (by decide))
  have k_law := dv_law (P := P) (w := w) (b := b) (mg := mg) (sp := spLaw K [P__is_move, P_is_plan]) F_law F__law_held k__law_held F__law_town k__law_town F__law_rows k__law_rows F__law_draw k__law_draw (PySem.W.mg_none_of X G no_len) (PySem.W.mg_none_of X G no_range) F__law_plan_by k__law_plan_by F__law_bent k__law_bent F__law_are_moves k__law_are_moves (PySem.W.mg_none_of X G no_repr) F_is_plan k_is_plan (PySem.W.mg_none_of X G no_isinstance) (PySem.W.mg_none_of X G no_bool) F__law_is_plan k__law_is_plan (by intro vs H Q E h; first | (obtain ⟨_, rfl, _⟩ := h; rfl) | (obtain ⟨_, _, rfl, _⟩ := h; rfl) | (obtain ⟨_, _, _, rfl, _⟩ := h; rfl) | (obtain ⟨_, _, _, _, rfl, _⟩ := h; rfl) | (obtain ⟨_, _, _, _, _, rfl, _⟩ := h; rfl) | (obtain ⟨_, _, _, _, _, _, rfl, _⟩ := h; rfl) | (obtain ⟨_, _, _, _, _, _, _, rfl, _⟩ := h; rfl) | (obtain ⟨_, _, _, _, _, _, _, _, rfl, _⟩ := h; rfl) | (obtain ⟨_, _, _, _, _, _, _, _, _, rfl, _⟩ := h; rfl) | (obtain ⟨_, _, _, _, _, _, _, _, _, _, rfl, _⟩ := h; rfl) | (obtain ⟨_, _, _, _, _, _, _, _, _, _, _, rfl, _⟩ := h; rfl) | (obtain ⟨_, _, _, _, _, _, _, _, _, _, _, _, rfl, _⟩ := h; rfl) | (obtain ⟨_, _, _, _, _, _, _, _, _, _, _, _, _, rfl, _⟩ := h; rfl) | (obtain ⟨_, _, _, _, _, _, _, _, _, _, _, _, _, _, rfl, _⟩ := h; rfl)) (rd_law K (L := [P__is_move, P_is_plan]) (P := P_is_plan) (by simp))
  exact k_law
end Wg
open PySem PySem.W PyProof.Rows
set_option maxHeartbeats 0 in
theorem PySem.Challenge.cw_wagoncalls_k31_what_plans_are_holds : PySem.Challenge.rw_wagoncalls_k31_what_plans_are.Holds := by
  w_on; o_law; k_head; (case hw => w_witness2)
  k_fill
  refine Wg.walk_endT (l := PySem.Challenge.rw_wagoncalls_k31_what_plans_are) (n := 63) (k := 6) (x := "script") (sp := fun K L => Wg.spLaw K L) rfl (by decide) rfl ⟨⟨rfl, by decide, by decide⟩, rfl⟩ (fun w h Y => PySem.W.kIn_of Y) ?F ?S
  case S =>
    intro K L H a ns hl ho ht hs
    exact ⟨a, ns, rfl, Wg.Scr.ofT ho hs, hl, ht, fun _ => rfl⟩
  case F =>
    intro w mg fa h KX G hmg
    refine' Wg.all_mk KX G hmg ?ad__is_move ?lo__is_move ?co__is_move ?kp__is_move ?tb__is_move ?re__is_move ?ad_is_plan ?lo_is_plan ?co_is_plan ?kp_is_plan ?tb_is_plan ?re_is_plan ?ad__law_held ?lo__law_held ?co__law_held ?kp__law_held ?ad__law_draw ?lo__law_draw ?co__law_draw ?kp__law_draw ?ad__law_some ?lo__law_some ?co__law_some ?kp__law_some ?ad__law_names ?lo__law_names ?co__law_names ?kp__law_names ?ad__law_minutes ?lo__law_minutes ?co__law_minutes ?kp__law_minutes ?ad__law_town ?lo__law_town ?co__law_town ?kp__law_town ?ad__law_rows ?lo__law_rows ?co__law_rows ?kp__law_rows ?ad__law_plan_by ?lo__law_plan_by ?co__law_plan_by ?kp__law_plan_by ?ad__law_is_plan ?lo__law_is_plan ?co__law_is_plan ?kp__law_is_plan ?ad__law_bent ?lo__law_bent ?co__law_bent ?kp__law_bent ?ad__law_are_moves ?lo__law_are_moves ?co__law_are_moves ?kp__law_are_moves ?ad_law ?lo_law ?co_law ?kp_law ?no_isinstance ?no_tuple ?no_len ?no_any ?no_list ?no_all ?no_zip ?no_range ?no_int ?no_max ?no_min ?no_sorted ?no_str ?no_repr ?no_bool
    (case ad__is_move => k_is)
    (case lo__is_move => k_is)
    (case co__is_move => k_is)
    (case kp__is_move => k_is)
    (case tb__is_move => first | k_is | rfl | decide +kernel)
    (case re__is_move => first | k_is | rfl | decide +kernel)
    (case ad_is_plan => k_is)
    (case lo_is_plan => k_is)
    (case co_is_plan => k_is)
    (case kp_is_plan => k_is)
    (case tb_is_plan => first | k_is | rfl | decide +kernel)
    (case re_is_plan => first | k_is | rfl | decide +kernel)
    (case ad__law_held => k_is)
    (case lo__law_held => k_is)
    (case co__law_held => k_is)
    (case kp__law_held => k_is)
    (case ad__law_draw => k_is)
    (case lo__law_draw => k_is)
    (case co__law_draw => k_is)
    (case kp__law_draw => k_is)
    (case ad__law_some => k_is)
    (case lo__law_some => k_is)
    (case co__law_some => k_is)
    (case kp__law_some => k_is)
    (case ad__law_names => k_is)
    (case lo__law_names => k_is)
    (case co__law_names => k_is)
    (case kp__law_names => k_is)
    (case ad__law_minutes => k_is)
    (case lo__law_minutes => k_is)
    (case co__law_minutes => k_is)
    (case kp__law_minutes => k_is)
    (case ad__law_town => k_is)
    (case lo__law_town => k_is)
    (case co__law_town => k_is)
    (case kp__law_town => k_is)
    (case ad__law_rows => k_is)
    (case lo__law_rows => k_is)
    (case co__law_rows => k_is)
    (case kp__law_rows => k_is)
    (case ad__law_plan_by => k_is)
    (case lo__law_plan_by => k_is)
    (case co__law_plan_by => k_is)
    (case kp__law_plan_by => k_is)
    (case ad__law_is_plan => k_is)
    (case lo__law_is_plan => k_is)
    (case co__law_is_plan => k_is)
    (case kp__law_is_plan => k_is)
    (case ad__law_bent => k_is)
    (case lo__law_bent => k_is)
    (case co__law_bent => k_is)
    (case kp__law_bent => k_is)
    (case ad__law_are_moves => k_is)
    (case lo__law_are_moves => k_is)
    (case co__law_are_moves => k_is)
    (case kp__law_are_moves => k_is)
    (case ad_law => k_is)
    (case lo_law => k_is)
    (case co_law => k_is)
    (case kp_law => k_is)
    (case no_isinstance => k_is)
    (case no_tuple => k_is)
    (case no_len => k_is)
    (case no_any => k_is)
    (case no_list => k_is)
    (case no_all => k_is)
    (case no_zip => k_is)
    (case no_range => k_is)
    (case no_int => k_is)
    (case no_max => k_is)
    (case no_min => k_is)
    (case no_sorted => k_is)
    (case no_str => k_is)
    (case no_repr => k_is)
    (case no_bool => k_is)
