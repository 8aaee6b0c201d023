import PyProof.Rows.All
import Wide.All
import OpenK.AllK
import Wide.FinOn
import HandS.Base
import HandS.Call
import HandS.List
import HandS.Comp
import HandS.Ends
import HandS.Dict
import HandS.Iter
import HandS.Text
import HandS.Words
import PyProof.AutoSeq1
import PyProof.ReprRoads
import PyProof.CallFns
import HandS.IsInst
import HandS.Flow
import HandS.Style
import PyProof.FitsInt
import PyProof.StrLawsRepr
import HandS.Strs
import HandS.Zip
import HandS.Rev
import KE.GoesMore
import PyProof.EnumMake
import PyProof.Draws
import HandS.NoneIn
import KE.SortData
import HandS.Conv
import KE.DataCmp
import KE.DataMinMax
import PyProof.Rows.RowBridgeK
import KE.DataFind
import HandS.SetFor
import PyProof.Rows.CallKwBuiltin
import HandS.DictComp
import PyProof.DictUpdate
import HandS.Star
import HandS.Deep
import HandS.AnyAll
import HandS.GenOver
import PyProof.GenQ
import PyProof.ConsumeS
import HandS.EndTab
import KE.KStrOpen
import PyProof.ListStr
import PyProof.StrOps2
import KE.KxField
import HandS.FStr
import HandS.More
import KE.KRevSl
import HandS.Exc
import HandS.ExcInit
import HandS.ExcField
import HandS.ExcIs
import HandS.ExcOwn
import HandS.TryOnly
import HandS.WordsExc
import KE.KExcIs
import PyProof.IsRules
import HandS.RaiseMore
import HandS.ExcValue
import HandS.Small
import PySem.Challenge.RW_wagoncalls_k09_towns_told_too_long
set_option Elab.async false
set_option linter.all false
set_option maxRecDepth 100000
set_option maxHeartbeats 4000000
/-! Wagon, part 1: promises of defs that are called where no repr runs (so that what repr tells is known). -/
namespace Wg
open PySem PySem.Spec PyProof.Rows L2

/-- room for calls, and no repr under way -/
structure Rm (k : Nat) (A : Around) : Prop where
  rm : Room k A
  gd : A.guards = some []
theorem Rm.mono {j k : Nat} {A : Around} (r : Rm k A) (h : j ≤ k) : Rm j A := ⟨r.rm.mono h, r.gd⟩
theorem Rm.deep {k : Nat} {A : Around} (r : Rm (k + 1) A) (v : Env) : Rm k (A.deeper v) := ⟨r.rm.deeper v, r.gd⟩

/-- the def at f keeps the promise sp -/
structure Keeps (P : Program) (w : World) (K : PySem.W.Frag) (mg : Str → Option Value) (b : Heap) (CX : CXT) (k : Nat) (f : Addr) (fd : FuncData) (ps : List Str) (sp : Sp) : Prop where
  len : ∀ vs H Q E, sp vs H Q E → vs.length = ps.length
  run : ∀ (A : Around) (o : List Env) (s : Shared) (H : Hp) (g : Args) (us : List Value) (vs : List V) (Q : VK) (E : XK),
    Rm k A → Env0 P w K mg b A o s H → BindsTo s fd g (ps.zip us) → Vals vs us → sp vs H Q E →
      codeAny (model P w) A (.call (.ref f) g) (CR CX o P w H s Q E) s
theorem Keeps.up {P : Program} {w : World} {K : PySem.W.Frag} {mg : Str → Option Value} {b : Heap} {CX : CXT} {j k : Nat} {f : Addr} {fd : FuncData} {ps : List Str} {sp : Sp}
    (F : Keeps P w K mg b CX j f fd ps sp) (h : j ≤ k) : Keeps P w K mg b CX k f fd ps sp :=
  ⟨F.len, fun A o s H g us vs Q E hr => F.run A o s H g us vs Q E (hr.mono h)⟩
theorem Keeps.weak {P : Program} {w : World} {K : PySem.W.Frag} {mg : Str → Option Value} {b : Heap} {CX : CXT} {k : Nat} {f : Addr} {fd : FuncData} {ps : List Str} {sp sp' : Sp}
    (F : Keeps P w K mg b CX k f fd ps sp) (h : ∀ vs H Q E, sp' vs H Q E → sp vs H Q E) : Keeps P w K mg b CX k f fd ps sp' :=
  ⟨fun vs H Q E q => F.len vs H Q E (h _ _ _ _ q), fun A o s H g us vs Q E h1 h2 h3 h4 h5 => F.run A o s H g us vs Q E h1 h2 h3 h4 (h _ _ _ _ h5)⟩

section
variable {X : Cx} {CX : CXT} {k : Nat} {f : Addr} {fd : FuncData} {ps : List Str} {sp : Sp} {E : XK} {x : Str} {p pos : Pos} {e : Expr} {es : List Expr} {t : TA}
theorem go_fn {pins : List (Addr × Obj)} {σ : L2.St} {H : Hp} {s : Shared} {Q : VK} {us : List Value} {vs : List V}
    (F : Keeps X.prog X.w X.K X.mg X.base CX k f fd ps sp) (hr : Rm k X.A) (hb : Binds X.K fd ps []) (hx : Passes CX X E)
    (I : Inv X pins σ H s) (r : Vals vs us) (h : sp vs H Q E) : wpAny (model X.prog X.w) X.A (call (.ref f) us) (EP X pins σ Q) X.xe s := by
  have hl : (us ++ []).length = ps.length := by
    rw [List.append_nil, ← r.length]
    exact F.len _ _ _ _ h
  have hbs := hb s us I.kIn hl
  rw [List.append_nil] at hbs
  have run := F.run X.A X.stack s H ⟨us, []⟩ us vs Q E hr I.env0 hbs r h
  refine wpAny_call (codeAny_mono run fun res s' hq => ?_)
  match res, hq with
  | .error e, hq => exact hx pins σ H s e s' I hq
  | .ok (.ret u), hq => exact I.after hq
  | .ok .next, hq => exact hq.elim
  | .ok .brk, hq => exact hq.elim
  | .ok .cont, hq => exact hq.elim
/-- f(e, ..), f a def of the text -/
def tGo (sp : Sp) (E : XK) (t : TA) : TE := fun σ H Q => t σ H fun vs H1 => sp vs H1 Q E
theorem pe_go (F : Keeps X.prog X.w X.K X.mg X.base CX k f fd ps sp) (hr : Rm k X.A) (hg : Gl X x) (hm : X.mg x = some (.ref f)) (hk : PySem.W.keepIn X.K (.ref f) = true)
    (hb : Binds X.K fd ps []) (hx : Passes CX X E) (ha : PA X (e :: es) t) (hdb : (x == ("__debug__" : Str)) = false := by decide)
    (he : starEach (e :: es) X.env = (false, eval e X.env) :: starEach es X.env := by rfl) (hpl : (backTo pos (starEach es X.env)).any (·.1) = false := by rfl) :
    PE X (.Call (.Name x p) (e :: es) [] pos) (tGo sp E t) := by
  constructor
  intro pins s σ H Q I h
  refine wpAny_Call_Name_kw (ld_glob I hg hm ?_ hdb)
  have args := ha.run pos pins s σ H _ I h
  refine PySem.W.callWith_K (h₀ := X.base) I.ok.mod.kin hk (thn args fun us s1 hh => ?_) he hpl
  obtain ⟨vs, H1, I1, r, q⟩ := hh
  exact ⟨I1.kIn, go_fn F hr hb hx I1 r q⟩
theorem pe_go0 (F : Keeps X.prog X.w X.K X.mg X.base CX k f fd ps sp) (hr : Rm k X.A) (hg : Gl X x) (hm : X.mg x = some (.ref f)) (hk : PySem.W.keepIn X.K (.ref f) = true)
    (hb : Binds X.K fd ps []) (hx : Passes CX X E) (hdb : (x == ("__debug__" : Str)) = false := by decide) : PE X (.Call (.Name x p) [] [] pos) (tGo sp E tNil) := by
  constructor
  intro pins s σ H Q I h
  refine wpAny_Call_Name_kw (ld_glob I hg hm ?_ hdb)
  exact PySem.W.callWith_K0 I.kIn hk (go_fn (us := []) F hr hb hx I .nil h)
end

section
variable {P : Program} {w : World} {K : PySem.W.Frag} {mg : Str → Option Value} {b : Heap}
/-- a def keeps its promise, by its body -/
theorem keeps_of {CX : CXT} {x qual : Str} {st : Stmt} {f : Addr} {fd : FuncData} {N ps : List Str} {k : Nat} {sp : Sp} (F : Fun K x qual st f fd) (S : FnScope N ps (defScope st))
    (len : ∀ vs H Q E, sp vs H Q E → vs.length = ps.length)
    (body : ∀ (cdv : Value) (A : Around) (o : List Env) (s : Shared) (H : Hp) (vs : List V) (Q : VK) (E : XK), Rm k (A.deeper (envOfC qual (defScope st) s.heap.objs.size f cdv)) → sp vs H Q E →
      ∃ t, PSs (cxOf CX P w K mg b N qual (defScope st) f cdv A o s H E) (defBody st) t ∧ t { nx := fun _ H' => Q .non H', rt := Q } (start N vs) H) :
    Keeps P w K mg b CX (k + 1) f fd ps sp := by
  obtain ⟨oc, od, kV, doc, pm, an, cdv, ct, osl, rfl, lk, hcd⟩ := F.ex
  constructor
  · exact len
  intro A o s H g us vs Q E hr e0 hb r hsp
  have hl := len _ _ _ _ hsp
  have up : ∀ {a : Addr} {ob : Obj}, b.get? a = some ob → s.heap.get? a = some ob := fun {a ob} q => (e0.bs a ob q).1
  have inK : K.In s.heap := e0.mod.kin.keeps fun _ _ q => up q
  have nolim : s.heap.NoLimit := e0.mod.nolimit.keeps fun _ _ q => up q
  have kinds : ∀ y ∈ ps.zip us, (defScope st).names.lookup y.1 = some .local ∨ ((defScope st).names.lookup y.1 = some .cell ∧ ((cellsFrom (s.heap.objs.size + 1) (defScope st).names []).lookup y.1).isSome = true) := by
    rintro ⟨n, v⟩ hy
    have hn := S.par n (List.of_mem_zip hy).1
    exact hn.imp id fun q => ⟨q, PySem.W.cellsFrom_some _ _ _ (.inl q)⟩
  have recd := PySem.W.codeRec_of inK hcd
  refine codeAny_call_function hr.rm.depth (inK _ _ lk) rfl S.co S.gen rfl recd (hb _ _ _ _ ?_)
  refine wpAny_newFunctionEnv_cells S.kind kinds ?_
  intro env he s1 y
  subst he
  refine ⟨nolim.keeps y.toInCall.keep, codeAny_func ?_⟩
  obtain ⟨t, ht, hq⟩ := body cdv A o s H vs Q E (hr.deep _) hsp
  have I := inv_start (CX := CX) (E := E) S hr.rm.hd e0 hl r y
  refine wpAny_mono (ht.run [] s1 (start N vs) H _ I hq) ?_ fun _ _ q => q
  intro fl s' hs
  match fl, hs with
  | .ret u, hs =>
    obtain ⟨v, σ', H', J, rv, q⟩ := hs
    exact ⟨v, H', J.os, J.bare, J.base, J.hok, rv, q⟩
  | .next, hs =>
    obtain ⟨σ', H', J, q⟩ := hs
    exact ⟨.non, H', J.os, J.bare, J.base, J.hok, rfl, q⟩
  | .brk, hs => exact hs.elim fun _ z => z.elim fun _ y => y.2.elim
  | .cont, hs => exact hs.elim fun _ z => z.elim fun _ y => y.2.elim
theorem keeps0 {x qual : Str} {st : Stmt} {f : Addr} {fd : FuncData} {N ps : List Str} {k : Nat} {sp : Sp} (F : Fun K x qual st f fd) (S : FnScope N ps (defScope st))
    (len : ∀ vs H Q E, sp vs H Q E → vs.length = ps.length)
    (body : ∀ (cdv : Value) (A : Around) (o : List Env) (s : Shared) (H : Hp) (vs : List V) (Q : VK) (E : XK), Rm k (A.deeper (envOfC qual (defScope st) s.heap.objs.size f cdv)) → sp vs H Q E →
      ∃ t, PSs (cxOf CX0 P w K mg b N qual (defScope st) f cdv A o s H E).nox (defBody st) t ∧ t { nx := fun _ H' => Q .non H', rt := Q } (start N vs) H) :
    Keeps P w K mg b CX0 (k + 1) f fd ps sp :=
  keeps_of F S len fun cdv A o s H vs Q E hr h => (body cdv A o s H vs Q E hr h).elim fun t q => ⟨t, q.1.nox, q.2⟩
end

/-- the law's call, from its promise -/
theorem law_end {P : Program} {w : World} {K : PySem.W.Frag} {mg mb : Str → Option Value} {k : Nat} {fa a : Addr} {fd : FuncData} {x : Str} {sp : Sp} {s : Shared} {vs : List Value} {ns : List Int}
    (KX : K.In s.heap) (hns : s.heap.Ns mainGlobals mg) (hb : s.heap.Ns builtinsNs mb) (hbb : ∀ x : Str, x ≠ "__name__" → mb x = bootBuiltins x) (hlim : s.heap.NoLimit) (hg : s.gens = #[])
    (ha : s.heap.get? a = some { cls := .type "list", data := .seq vs.toArray }) (hi : IntsAre vs ns) (hl : ns.length ≤ sizeLine) (hr : Rm k callerA)
    (F : ∀ b : Heap, K.In b → b.Ns mainGlobals mg → Keeps P w K mg b CX0 k fa fd [x] sp) (hbind : ∀ (s : Shared) (u : Value), BindsTo s fd ⟨[u], []⟩ [(x, u)])
    (hsp : ∀ H : Hp, Only H → SqL K H a (ns.map V.int) → sp [.ref a] H (fun v _ => v = .bl true) fun _ _ _ => False) :
    codeAny (model P w) callerA (.call (.ref fa) ⟨[.ref a], []⟩) (fun r s' => r = .ok (.ret (.bool true)) ∧ OldK s.heap s'.heap ∧ s'.os = s.os ∧ AllBare s'.gens) s := by
  -- a promise at callerA alone, dressed as one of the layer's at that place
  have lenV := hi.length
  have rv := vals_ints hi
  suffices core : ∀ H : Hp, Only H → SqL K H a (ns.map V.int) → HOk P w H s.heap → (∀ c, H c ≠ none → c = a) → (H a ≠ none → K.lookup a = none) →
      codeAny (model P w) callerA (.call (.ref fa) ⟨[.ref a], []⟩) (fun r s' => r = .ok (.ret (.bool true)) ∧ OldK s.heap s'.heap ∧ s'.os = s.os ∧ AllBare s'.gens) s by
    match hk : K.lookup a with
    | some o =>
      have eo := (KX a o hk).symm.trans ha
      obtain rfl := Option.some.inj eo
      refine core (fun _ => none) (fun _ => .inl rfl) (.inr ⟨_, vs.toArray, _, hk, rfl, rfl, rfl, ?_, by simpa using rv⟩) ?_ (fun c z => absurd rfl z) (fun z => absurd rfl z)
      · rw [List.size_toArray, lenV]; exact hl
      · intro c u z; exact nomatch z
    | none =>
      let H0 : Hp := fun c => if c = a then some (.frz { cls := .type "list", data := .seq vs.toArray } (.lst (ns.map V.int))) else none
      have at0 : H0 a = some (.frz { cls := .type "list", data := .seq vs.toArray } (.lst (ns.map V.int))) := if_pos rfl
      have ne0 : ∀ c, c ≠ a → H0 c = none := fun c hc => if_neg hc
      refine core H0 (fun c => ?_) (.inl (.inr ⟨_, at0⟩)) (fun c u z => ?_) (fun c z => ?_) fun _ => hk
      · by_cases hc : c = a
        · exact .inr ⟨_, _, by rw [hc]; exact at0⟩
        · exact .inl (ne0 c hc)
      · by_cases hc : c = a
        · subst hc
          obtain rfl := Option.some.inj (at0.symm.trans z)
          exact ⟨ha, by rw [List.length_map]; exact hl, vs, _, rv, ha⟩
        · exact nomatch (ne0 c hc).symm.trans z
      · exact Classical.byContradiction fun hc => z (ne0 c hc)
  intro H hO hS hok hA hK
  have only : ∀ {c : Addr} {u : HO}, H c = some u → c = a := fun {c u} q => hA c (by rw [q]; exact Option.some_ne_none u)
  have stays : ∀ {c : Addr} {o : Obj} {es : Array DictEntry} {ep : Nat}, s.heap.get? c = some o → o.data = .dict es ep → H c = none := by
    intro c o es ep e d
    match q : H c with
    | none => rfl
    | some u =>
      rw [only q, ha] at e
      obtain rfl := Option.some.inj e
      cases (show Data.seq vs.toArray _ = Data.dict es ep from d)
  have ns' : ∀ {c : Addr} {m : Str → Option Value}, s.heap.Ns c m → (hidT s.heap H).Ns c m := by
    rintro c m ⟨o, es, ep, e, d, r⟩
    exact ⟨o, es, ep, hidT_get e (stays e d), d, r⟩
  have kin : K.In (hidT s.heap H) := by
    intro c o e
    refine hidT_get (KX c o e) ?_
    match q : H c with
    | none => rfl
    | some u =>
      have ec := only q
      subst ec
      rw [hK (by rw [q]; exact Option.some_ne_none u)] at e
      cases e
  obtain ⟨mc, l1, l2⟩ := hlim
  have M : Mod K mg (hidT s.heap H) := ⟨kin, ns' hns, ⟨mb, ns' hb, hbb⟩, ⟨mc, ns' l1, l2⟩⟩
  have e0 : Env0 P w K mg (hidT s.heap H) callerA [] s H :=
    ⟨rfl, M, fun c o e => of_hidT e, Nat.le_of_eq (hidT_size _ _), trivial, fun c hc => (List.not_mem_nil hc).elim, hok, .of_eq hg⟩
  have run := (F _ kin (ns' hns)).run callerA [] s H ⟨[.ref a], []⟩ [.ref a] [.ref a] _ _ hr e0 (hbind s (.ref a)) (.cons rfl .nil) (hsp H hO hS)
  refine codeAny_mono run fun res s' hq => ?_
  match res, hq with
  | .error e, hq => exact hq.elim
  | .ok .next, hq => exact hq.elim
  | .ok .brk, hq => exact hq.elim
  | .ok .cont, hq => exact hq.elim
  | .ok (.ret u), hq =>
    obtain ⟨v, H', os, bare, un, hok', r', q⟩ := hq
    obtain rfl : v = .bl true := q
    obtain rfl : u = Value.bool true := r'
    refine ⟨rfl, OldK.of_keep fun c o e => ?_, os, bare⟩
    rcases hO c with z | ⟨ob, xs, z⟩
    · exact un.keep c o e z List.not_mem_nil List.not_mem_nil
    · have z1 := (hok c _ z).1
      have z2 := (hok' c _ (un.frzs c ob _ z)).1
      exact z2.trans (z1.symm.trans e)

theorem walk_end {l : PySem.W.OpenLaw} {n k : Nat} {q : Program} {loose : List Str} {XP : (Str → Option Value) → Heap → Prop} {YP : World → Heap → Prop} {d : DefRec} {K : Params → PySem.W.Frag} {sp : PySem.W.Frag → Sp} {x : Str}
    (hn : l.most = some n) (hn2 : n ≤ sizeLine) (hdf : d.params.defaults = []) (hr : Rm k callerA) (hY : ∀ (w : World) (h : Heap), YP w h → (K w.params).In h)
    (F : ∀ (w : World) (mg : Str → Option Value) (fa : Addr) (h : Heap), (K w.params).In h → h.Ns mainGlobals mg → mg d.name = some (.ref fa) →
      ∃ fd : FuncData, (∀ (s : Shared) (u : Value), BindsTo s fd ⟨[u], []⟩ [(x, u)]) ∧
        ∀ b : Heap, (K w.params).In b → b.Ns mainGlobals mg → Keeps l.prog w (K w.params) mg b CX0 k fa fd [x] (sp (K w.params)))
    (hsp : ∀ (K : PySem.W.Frag) (H : Hp) (a : Addr) (ns : List Int), ns.length ≤ n → Only H → SqL K H a (ns.map V.int) → sp K [.ref a] H (fun v _ => v = .bl true) fun _ _ _ => False) :
    PySem.W.WalkO q loose XP YP l.row.toRowW d [] (fun f vs => PySem.call f vs) := by
  refine Att.attach_call hn hdf ?_
  intro w s₀ s₁ mg mb fa o pm cd doc a vs ns G Y ho hd hcd hmg hobj hints hlen hg
  have kin := hY w _ Y
  obtain ⟨fd, hb, hF⟩ := F w mg fa _ kin G.T.g hmg
  exact law_end kin G.T.g G.T.b G.T.builtins G.T.nolimit hg hobj hints (Nat.le_trans hlen hn2) hr hF hb fun H hO hS => hsp _ H a ns hlen hO hS
end Wg

/-! Wagon, part 2: heaps that are not written out, and the rules of operators, calls and methods in that style. -/
namespace Wg
open PySem PySem.Spec PyProof.Rows L2

/-- all but what stands at S is kept -/
def Keep (S : List Addr) (H H' : Hp) : Prop := ∀ b o, b ∉ S → H b = some o → H' b = some o
theorem Keep.at {S : List Addr} {H H' : Hp} {b : Addr} {o : HO} (k : Keep S H H') (n : b ∉ S) (h : H b = some o) : H' b = some o := k b o n h
theorem Keep.refl (S : List Addr) (H : Hp) : Keep S H H := fun _ _ _ h => h
theorem Keep.trans {S : List Addr} {H H1 H2 : Hp} (a : Keep S H H1) (b : Keep S H1 H2) : Keep S H H2 := fun c o n h => b c o n (a c o n h)
theorem Keep.wide {S T : List Addr} {H H' : Hp} (k : Keep S H H') (h : ∀ b ∈ S, b ∈ T) : Keep T H H' := fun b o n q => k b o (fun z => n (h b z)) q
theorem Keep.all {S : List Addr} {H H' : Hp} (k : Keep [] H H') : Keep S H H' := k.wide fun _ h => (List.not_mem_nil h).elim
theorem Keep.free {S : List Addr} {H H' : Hp} {b : Addr} (k : Keep S H H') (n : b ∉ S) (h : H' b = none) : H b = none := by
  match q : H b with
  | none => rfl
  | some o => exact nomatch h.symm.trans (k b o n q)
theorem Keep.new {S : List Addr} {H : Hp} {p : Addr} {o : HO} (h : H p = none) : Keep S H (upd H p o) := fun b u _ q => by
  rw [upd_ne (ne_of_none q h)]
  exact q
theorem Keep.set {H : Hp} {p : Addr} {o : HO} : Keep [p] H (upd H p o) := fun b u n q => by
  rw [upd_ne (fun z : b = p => n (by rw [z]; exact List.mem_singleton.mpr rfl))]
  exact q
theorem nin0 {b : Addr} : b ∉ ([] : List Addr) := List.not_mem_nil
theorem nin1 {a b : Addr} (h : b ≠ a) : b ∉ [a] := fun z => h (List.mem_singleton.mp z)
/-- a tuple that stands still, of no dict of its own -/
def Tup (H : Hp) (a : Addr) (xs : List V) : Prop := ∃ ob : Obj, H a = some (.frz ob (.tup xs)) ∧ ob.dict = none ∧ ob.slots = #[]
theorem Tup.sq {K : PySem.W.Frag} {H : Hp} {a : Addr} {xs : List V} (h : Tup H a xs) : SqT K H a xs := let ⟨ob, e, _⟩ := h; .inl (.inr ⟨ob, e⟩)
theorem Tup.keep {S : List Addr} {H H' : Hp} {a : Addr} {xs : List V} (h : Tup H a xs) (k : Keep S H H') (n : a ∉ S) : Tup H' a xs := let ⟨ob, e, d⟩ := h; ⟨ob, k a _ n e, d⟩
theorem Tup.inj {H : Hp} {a : Addr} {xs ys : List V} (h : Tup H a xs) (h' : Tup H a ys) : xs = ys := by
  obtain ⟨o1, e1, _⟩ := h
  obtain ⟨o2, e2, _⟩ := h'
  have q := Option.some.inj (e1.symm.trans e2)
  injection q with _ q
  exact HO.tup.inj q
theorem Tup.there {H : Hp} {a : Addr} {xs : List V} (h : Tup H a xs) : ∃ o, H a = some o := let ⟨ob, e, _⟩ := h; ⟨_, e⟩
theorem Tup.neL {H : Hp} {a b : Addr} {xs ys : List V} (h : Tup H a xs) (h' : H b = some (.lst ys)) : a ≠ b := fun z => by
  obtain ⟨o1, e1, _⟩ := h
  rw [z, h'] at e1
  cases e1
theorem Tup.neD {H : Hp} {a b : Addr} {xs : List V} {ys : List (Key × V)} (h : Tup H a xs) (h' : H b = some (.dK ys)) : a ≠ b := fun z => by
  obtain ⟨o1, e1, _⟩ := h
  rw [z, h'] at e1
  cases e1
theorem lst_sq {K : PySem.W.Frag} {H : Hp} {a : Addr} {xs : List V} (h : H a = some (.lst xs)) : SqL K H a xs := .inl (.inl h)
theorem sq_keep {K : PySem.W.Frag} {H H' : Hp} {S : List Addr} {a : Addr} {xs : List V} (h : SqL K H a xs) (k : Keep S H H') (n : a ∉ S) : SqL K H' a xs := by
  rcases h with (h | ⟨o, h⟩) | h
  · exact .inl (.inl (k _ _ n h))
  · exact .inl (.inr ⟨o, k _ _ n h⟩)
  · exact .inr h

/-- a new object o comes -/
def Mk (H : Hp) (o : HO) (Q : VK) : Prop := ∀ p H', H p = none → Keep [] H H' → H' p = some o → Q (.ref p) H'
/-- a new tuple comes -/
def Mt (H : Hp) (xs : List V) (Q : VK) : Prop := ∀ p H', H p = none → Keep [] H H' → Tup H' p xs → Q (.ref p) H'
/-- what stands at a is o from now on -/
def Ch (H : Hp) (a : Addr) (o : HO) (R : Hp → Prop) : Prop := ∀ H', Keep [a] H H' → H' a = some o → R H'
theorem Mk.at {H : Hp} {o : HO} {Q : VK} (h : Mk H o Q) (p : Addr) (n : H p = none) : Q (.ref p) (upd H p o) := h p _ n (Keep.new n) upd_same
theorem Ch.at {H : Hp} {a : Addr} {o : HO} {R : Hp → Prop} (h : Ch H a o R) : R (upd H a o) := h _ Keep.set upd_same

section
variable {X : Cx} {pins : List (Addr × Obj)} {σ : L2.St} {H : Hp} {s : Shared}
/-- a tuple object as the model lays it -/
abbrev tupObj (its : List Value) : Obj := { cls := .type "tuple", data := .seq its.toArray }
theorem mt_end {xs : List V} {its : List Value} {Q : VK} {t' : Nat} (I : Inv X pins σ H s) (r : Vals xs its) (z : xs.length ≤ sizeLine) (h : Mt H xs Q) :
    EP X pins σ Q (.ref s.heap.objs.size) { s with heap := s.heap.push (tupObj its), toks := t' } := by
  have n : H s.heap.objs.size = none := I.hok.fresh (Nat.le_refl _)
  have new : (s.heap.push (tupObj its)).get? s.heap.objs.size = some (tupObj its) := Heap.get?_push_size _ rfl
  refine ⟨.ref s.heap.objs.size, upd H s.heap.objs.size (.frz (tupObj its) (.tup xs)), I.laid (fun b u e => Heap.get?_push_of_some _ e) (Nat.le_refl _) ?_, rfl, ?_⟩
  · exact ⟨new, z, its, r, _, new, rfl, _, rfl⟩
  · exact h _ _ n (Keep.new n) ⟨_, upd_same, rfl, rfl⟩
/-- the object of such a tuple -/
theorem Tup.obj {a : Addr} {xs : List V} (I : Inv X pins σ H s) (h : Tup H a xs) : ∃ (its : List Value) (n : Nat), Vals xs its ∧ xs.length ≤ sizeLine ∧ s.heap.get? a = some { cls := .type "tuple", dict := none, data := .seq its.toArray n, slots := #[] } := by
  obtain ⟨ob, e, d, sl⟩ := h
  obtain ⟨h1, z, its, r, o2, h2, c, n, hd⟩ := I.hok a _ e
  have eo := Option.some.inj (h1.symm.trans h2)
  obtain ⟨c0, d0, da, s0⟩ := ob
  subst eo
  simp only at c hd d sl
  subst c hd d sl
  exact ⟨its, n, r, z, h1⟩
end

/-! ### operators -/
section
variable {X : Cx}
def uAdd (K : PySem.W.Frag) : R2 := fun x y H Q =>
  (∃ i j, x = .int i ∧ y = .int j ∧ Q (.int (i + j)) H) ∨
  (∃ i j, x = .str i ∧ y = .str j ∧ i.length + j.length ≤ sizeLine ∧ Q (.str (i ++ j)) H) ∨
  (∃ l b xs zs, x = .ref l ∧ y = .ref b ∧ H l = some (.lst xs) ∧ H b = some (.lst zs) ∧ xs.length + zs.length ≤ sizeLine ∧ Mk H (.lst (xs ++ zs)) Q) ∨
  (∃ a b xs ys, x = .ref a ∧ y = .ref b ∧ Tup H a xs ∧ Tup H b ys ∧ xs.length + ys.length ≤ sizeLine ∧ (xs = [] → Q y H) ∧ (xs ≠ [] → ys = [] → Q x H) ∧ (xs ≠ [] → ys ≠ [] → Mt H (xs ++ ys) Q))
theorem cat_none {pins : List (Addr × Obj)} {σ : L2.St} {H : Hp} {s : Shared} {a b : Addr} {ys : List V} {Q : VK} (I : Inv X pins σ H s) (ha : Tup H a []) (hb : Tup H b ys) (q : Q (.ref b) H) :
    wpAny (model X.prog X.w) X.A (binaryOp .Add (.ref a) (.ref b)) (EP X pins σ Q) X.xe s := by
  obtain ⟨its, n, r, _, ho⟩ := ha.obj I
  obtain ⟨its2, n2, r2, _, ho2⟩ := hb.obj I
  cases r
  exact concat_meets ⟨_, ho, rfl⟩ ⟨_, ho2, rfl⟩ noFill_tuple_add seq_tuple_add PySem.F.slot_tuple_add PySem.F.entry_tuple_add (PySem.F.args_tuple_add_2 _ _)
    (AutoSeq1.tuple___add___tuple_tuple_0 a #[] n b its2.toArray n2 rfl) ⟨ho, ho2, ⟨.ref b, H, I, rfl, q⟩⟩
theorem op_uAdd : OpR X (binaryOp .Add) (uAdd X.K) := by
  intro pins s σ H x y v u Q I rx ry h
  rcases h with h | h | h | ⟨a, b, xs, ys, rfl, rfl, ha, hb, z, q0, q1, q2⟩
  · exact op_add pins s σ H x y v u Q I rx ry h
  · exact op_add_str pins s σ H x y v u Q I rx ry h
  · obtain ⟨l, b, xs, zs, e1, e2, h1, h2, h3, q⟩ := h
    exact op_cat pins s σ H x y v u Q I rx ry ⟨l, b, xs, zs, e1, e2, h1, h2, h3, fun p n => q.at p n⟩
  · cases rx
    cases ry
    by_cases e : xs = []
    · subst e
      exact cat_none I ha hb (q0 rfl)
    · obtain ⟨its, r1, p1, _⟩ := I.tuple ha.sq
      obtain ⟨its2, r2, p2, _⟩ := I.tuple hb.sq
      refine HT.cat_tup p1 p2 (fun c => e (r1.nil_iff.mp c)) (fun c => ⟨.ref a, H, I, rfl, q1 e (r2.nil_iff.mp c)⟩) (fun c => ?_) (by rw [← r1.length, ← r2.length]; exact z)
      exact mt_end (t' := s.toks) I (r1.append r2) (by rw [List.length_append]; exact z) (q2 e fun d => c (r2.nil_iff.mpr d))
def uMul : R2 := fun x y H Q =>
  (∃ i j, x = .int i ∧ y = .int j ∧ CMul i j ∧ Q (.int (i * j)) H) ∨
  (∃ l k xs, x = .ref l ∧ y = .int k ∧ H l = some (.lst xs) ∧ -(2 ^ 63) ≤ k ∧ k < 2 ^ 63 ∧ xs.length * k.toNat ≤ sizeLine ∧ Mk H (.lst (List.replicate k.toNat xs).flatten) Q)
theorem op_uMul : OpR X (binaryOp .Mult) uMul := by
  intro pins s σ H x y v u Q I rx ry h
  rcases h with h | ⟨l, k, xs, e1, e2, h1, h2, h3, h4, q⟩
  · exact op_mul pins s σ H x y v u Q I rx ry h
  · exact op_rep pins s σ H x y v u Q I rx ry ⟨l, k, xs, e1, e2, h1, h2, h3, h4, fun p n => q.at p n⟩
/-- data that are compared -/
def uEq (K : PySem.W.Frag) (neg : Bool) : R2 := fun x y H Q =>
  (scal x y = true ∧ Q (.bl (if neg then !decide (x = y) else decide (x = y))) H) ∨
  (∃ d e, Dp K H x d ∧ Dp K H y e ∧ SeqAt.shaped d = true ∧ SeqAt.shaped e = true ∧ Q (.bl (if neg then !PyData.eqv d e else PyData.eqv d e)) H)
theorem op_uEq (hu : X.A.units + 64 < cLine) : OpR X (compareOp .Eq) (uEq X.K false) := by
  intro pins s σ H x y v u Q I rx ry h
  rcases h with h | h
  · exact op_eq pins s σ H x y v u Q I rx ry h
  · exact op_eqD hu pins s σ H x y v u Q I rx ry h
theorem op_uNe (hu : X.A.units + 64 < cLine) : OpR X (compareOp .NotEq) (uEq X.K true) := by
  intro pins s σ H x y v u Q I rx ry h
  rcases h with h | h
  · exact op_ne pins s σ H x y v u Q I rx ry h
  · exact op_neD hu pins s σ H x y v u Q I rx ry h
def uIn (K : PySem.W.Frag) (neg : Bool) : R2 := fun x y H Q =>
  (∃ p xs, y = .ref p ∧ (SqL K H p xs ∨ SqT K H p xs) ∧ flatV x = true ∧ xs.all flatV = true ∧ Q (.bl (if neg then !inV x xs else inV x xs)) H) ∨
  (∃ c z : Str, x = .str c ∧ y = .str z ∧ Q (.bl (if neg then !(!(Builtin.Str.occurrences z c 0 z.length 1).isEmpty) else !(Builtin.Str.occurrences z c 0 z.length 1).isEmpty)) H)
theorem op_uIn : OpR X (compareOp .In) (uIn X.K false) := by
  intro pins s σ H x y v u Q I rx ry h
  rcases h with h | ⟨i, j, e1, e2, q⟩
  · exact op_in_seq pins s σ H x y v u Q I rx ry h
  · exact op_in_str pins s σ H x y v u Q I rx ry ⟨i, j, e1, e2, q⟩
theorem op_uNotIn : OpR X (compareOp .NotIn) (uIn X.K true) := by
  intro pins s σ H x y v u Q I rx ry h
  rcases h with h | ⟨i, j, e1, e2, q⟩
  · exact op_notIn_seq pins s σ H x y v u Q I rx ry h
  · exact op_notIn_str pins s σ H x y v u Q I rx ry ⟨i, j, e1, e2, q⟩
end

/-! ### subscripts, slices -/
section
variable {X : Cx}
def uIx (K : PySem.W.Frag) : R2 := fun x y H Q =>
  (∃ p xs i v, x = .ref p ∧ y = .int i ∧ (SqL K H p xs ∨ SqT K H p xs) ∧ atI xs i = some v ∧ Q v H) ∨
  (∃ z i c, x = .str z ∧ y = .int i ∧ z.length ≤ sizeLine ∧ atI z.cps.toList i = some c ∧ Q (.str ⟨#[c]⟩) H)
theorem ix_u : IxR X (uIx X.K) := by
  intro ve se pins s σ H x y v u Q I rx ry h hs
  rcases h with ⟨p, xs, i, w, e1, e2, hq, ha, q⟩ | h
  · rcases hq with hq | hq
    · exact ix_list ve se pins s σ H x y v u Q I rx ry ⟨p, xs, i, w, e1, e2, hq, ha, q⟩ hs
    · exact ix_tup ve se pins s σ H x y v u Q I rx ry ⟨p, xs, i, w, e1, e2, hq, ha, q⟩ hs
  · exact ix_str ve se pins s σ H x y v u Q I rx ry h hs
def uSetL : V → V → V → Hp → (Hp → Prop) → Prop := fun o i v H Q => ∃ p xs k j, o = .ref p ∧ i = .int k ∧ H p = some (.lst xs) ∧ ixN xs.length k = some j ∧ Ch H p (.lst (xs.set j v)) Q
theorem set_u : PSet X uSetL := by
  intro pins s σ H o i v ov iv u Q I r1 r2 r3 h
  obtain ⟨p, xs, k, j, e1, e2, h1, h2, q⟩ := h
  exact set_list pins s σ H o i v ov iv u Q I r1 r2 r3 ⟨p, xs, k, j, e1, e2, h1, h2, q.at⟩
end
end Wg

/-! Wagon, part 3: displays, slices, calls of built-ins, repr of data. -/
namespace Wg
open PySem PySem.Spec PyProof.Rows L2

/-! ### displays -/
section
variable {X : Cx} {es : List Expr} {t : TA} {pos : Pos}
def tTupU (t : TA) : TE := fun σ H Q => t σ H fun xs H1 => xs.length ≤ sizeLine ∧ Mt H1 xs Q
def tLstU (t : TA) : TE := fun σ H Q => t σ H fun xs H1 => xs.length ≤ sizeLine ∧ Mk H1 (.lst xs) Q
theorem pe_tupU {k : Nat} (h : PA X es t) : PE X (.Tuple es k pos) (tTupU t) := by
  constructor
  intro pins s σ H Q I hq
  have run := h.run pos pins s σ H _ I hq
  refine wpAny_Tuple_spliced (thn run fun us s1 r => ?_)
  obtain ⟨xs, H1, I1, rv, z, q⟩ := r
  rw [← rv.length]
  exact ⟨z, mt_end (t' := s1.toks) I1 rv z q⟩
theorem pe_lstU (h : PA X es t) : PE X (.List es pos) (tLstU t) := by
  constructor
  intro pins s σ H Q I hq
  have run := h.run pos pins s σ H _ I hq
  refine wpAny_List_spliced (thn run fun us s1 r => ?_)
  obtain ⟨xs, H1, I1, rv, z, q⟩ := r
  rw [← rv.length]
  have n := I1.fresh
  have new : ObjOk X.prog X.w (upd H1 s1.heap.objs.size (.lst xs)) (s1.heap.push { cls := .type "list", data := .seq us.toArray }) s1.heap.objs.size (.lst xs) := ⟨z, us, 0, rv, Heap.get?_push_size _ rfl⟩
  exact ⟨z, .ref s1.heap.objs.size, _, I1.laid (t' := s1.toks) (fun b u e => Heap.get?_push_of_some _ e) (Nat.le_refl _) new, rfl, q.at _ n⟩
def tDNewU : TE := fun _ H Q => Mk H (.dK []) Q
theorem pe_dnewU : PE X (.Dict [] [] pos) tDNewU := ⟨fun pins s σ H Q I h => pe_dnewK.run pins s σ H Q I fun p n => h.at p n⟩
/-- {k: v} of two names -/
def tDic1 (i j : Nat) : TE := fun σ H Q => ∃ x : V, σ[i]? = some (some x) ∧ ∃ y : V, σ[j]? = some (some y) ∧ ∃ k : Key, x = kV k ∧ Mk H (.dK [(k, y)]) Q
theorem pe_dic1 {k v : Expr} {i j : Nat} (hk : PE X k (tVar i)) (hv : PE X v (tVar j)) : PE X (.Dict [some k] [v] pos) (tDic1 i j) := by
  constructor
  intro pins s σ H Q I h
  obtain ⟨x, e1, y, e2, kk, rfl, q⟩ := h
  refine (pe_disp (pps_cons hk hv pps_nil) rfl rfl (by simp) (by simp)).run pins s σ H Q I fun p n => ?_
  refine ⟨_, e1, _, e2, upd_same, [(kk, y)], rfl, by simp, ?_⟩
  rw [upd_upd]
  exact q.at p n
end

/-! ### slices -/
section
variable {prog : Program} {w : World} {A : Around} {E : Value → Shared → Prop} {s : Shared}
/-- t[..] of all of t is t -/
theorem cut_whole {t sl : Addr} {items : Array Value} {vl vu : Value} {lo hi : Option Int} {Q : Value → Shared → Prop} (ht : IsTup s.heap t items) (hs : s.heap.IsSliceOf sl vl vu .none) (pl : IsPart vl lo) (pu : IsPart vu hi)
    (h0 : HT.sIx items.size 0 lo = 0) (h1 : HT.sIx items.size items.size hi = items.size) (h : Q (.ref t) s) : wpAny (model prog w) A (getItem (.ref t) (.ref sl)) Q E s := by
  obtain ⟨os, hos, hcs, hds⟩ := id hs
  have tysl : s.TypeIs (.ref sl) "slice" := ⟨os, hos, hcs⟩
  unfold getItem
  try with_reducible refine wpAny_holding ?_
  first | refine wpAny_bind (wpAny_pure ?_) | skip
  refine wpAny_bind (wpAny_sequenceKey ht.typeIs (by decide) ?_)
  refine wpAny_bind (wpAny_callSpecial?_slot (name := Str.ofString "__getitem__") ht.typeIs PyProof.Rows.slot_tuple_getitem
    (wpAny_call_entry PyProof.Rows.slot_tuple_getitem ht.typeIs entry_tuple_getitem ?_ (args_tuple_getitem _ _)))
  show wpAny _ _ (Builtin.Tuple.tupleItemsOf (.ref t) >>= _) _ _ s
  refine wpAny_bind (tupleItemsOf_ ht (wpAny_bind (wpAny_typeOf tysl ?_)))
  rw [if_pos (by decide)]
  refine wpAny_bind (HT.sliceApplied_gen hs pl pu ?_)
  rw [h0, h1]
  show wpAny _ _ (if ((((0 : Nat) : Int) == 0 && (1 : Int) == 1 && (items.size - 0) == items.size) = true) then _ else _) _ _ s
  rw [if_pos (by simp)]
  refine wpAny_bind (m := Builtin.Tuple.tupleIsExact _) ?_
  unfold Builtin.Tuple.tupleIsExact
  refine wpAny_bind (wpAny_typeOf ht.typeIs (wpAny_pure ?_))
  rw [if_pos (by decide)]
  exact wpAny_bind (wpAny_rule (wpAny_pure ⟨_, rfl, wpAny_pure h⟩))
end
section
variable {X : Cx}
def uSl (K : PySem.W.Frag) : V → Option Int → Option Int → Hp → VK → Prop := fun x lo hi H Q =>
  (∃ a xs, x = .ref a ∧ SqL K H a xs ∧ Mk H (.lst (cutV xs lo hi)) Q) ∨
  (∃ z, x = .str z ∧ z.length ≤ sizeLine ∧ Q (.str (cutS z lo hi)) H) ∨
  (∃ a xs, x = .ref a ∧ Tup H a xs ∧ ((HT.sIx xs.length 0 lo = 0 ∧ HT.sIx xs.length xs.length hi = xs.length) → Q (.ref a) H) ∧
    (¬ (HT.sIx xs.length 0 lo = 0 ∧ HT.sIx xs.length xs.length hi = xs.length) → Mt H (cutV xs lo hi) Q))
theorem sl_u : SlR X (uSl X.K) := by
  intro pins s σ H x v vl vu lo hi sl Q I rx hs pl pu h
  rcases h with ⟨a, xs, e, hx, q⟩ | h | ⟨a, xs, rfl, hx, q1, q2⟩
  · exact sl_list pins s σ H x v vl vu lo hi sl Q I rx hs pl pu ⟨a, xs, e, hx, fun p n => q.at p n⟩
  · exact sl_str pins s σ H x v vl vu lo hi sl Q I rx hs pl pu h
  · cases rx
    obtain ⟨its, r, ht, hz⟩ := I.tuple hx.sq
    have hlen : its.toArray.size = xs.length := by
      rw [List.size_toArray]
      exact r.length.symm
    refine ⟨"tuple", _, PyProof.Rows.slot_tuple_getitem.lookup, ht.typeIs, ?_⟩
    by_cases c : HT.sIx xs.length 0 lo = 0 ∧ HT.sIx xs.length xs.length hi = xs.length
    · exact cut_whole ht hs pl pu (by rw [hlen]; exact c.1) (by rw [hlen]; exact c.2) ⟨.ref a, H, I, rfl, q1 c⟩
    · refine HT.getItem_tuple_cut ht hs pl pu (by rw [hlen]; exact c) ?_ (by rw [hlen]; exact hz)
      rw [hlen]
      refine mt_end (t' := s.toks) I ((r.drop (HT.sIx xs.length 0 lo)).take (HT.sIx xs.length xs.length hi - HT.sIx xs.length 0 lo)) (Nat.le_trans (cutV_length xs lo hi) hz) (q2 c)
end

/-! ### calls -/
section
variable {X : Cx}
def uList (K : PySem.W.Frag) : List V → Hp → VK → Prop := fun xs H Q => ∃ p ys, xs = [.ref p] ∧ (SqL K H p ys ∨ SqT K H p ys) ∧ Mk H (.lst ys) Q
theorem call_uList : CallR X (.type "list") (uList X.K) := by
  intro pins s σ H xs us Q I r h
  obtain ⟨p, ys, e, hq, q⟩ := h
  exact call_list_of pins s σ H xs us Q I r ⟨p, ys, e, hq, fun l n => q.at l n⟩
def uTuple (K : PySem.W.Frag) : List V → Hp → VK → Prop := fun xs H Q => ∃ p ys, xs = [.ref p] ∧ ((SqL K H p ys ∧ Mt H ys Q) ∨ (SqT K H p ys ∧ Q (.ref p) H))
theorem call_uTuple : CallR X (.type "tuple") (uTuple X.K) := by
  intro pins s σ H xs us Q I r h
  obtain ⟨p, ys, rfl, h⟩ := h
  obtain ⟨u, rfl, rx⟩ := vals1 r
  cases rx
  rcases h with ⟨hq, q⟩ | ⟨hq, q⟩
  · obtain ⟨its, r', pl, hz⟩ := I.list hq
    have hlen := r'.length
    refine call_tuple_list pl.isList (fun h' kp => ?_) (by simp only [List.size_toArray] <;> omega)
    exact mt_end (t' := s.toks) (I.kept (t' := s.toks) kp) r' hz q
  · obtain ⟨its, r', pl, hz⟩ := I.tuple hq
    exact call_tuple_same pl ⟨.ref p, H, I, rfl, q⟩
/-- what repr tells of data -/
def uRepr (K : PySem.W.Frag) : List V → Hp → VK → Prop := fun xs H Q => ∃ v d, xs = [v] ∧ Dp K H v d ∧ d.showable = true ∧ d.depth ≤ 100 ∧ d.shown.length ≤ sizeLine ∧ Q (.str d.shown) H
theorem dp_noDict {K : PySem.W.Frag} {H : Hp} : ∀ {v : V} {d : PyData}, Dp K H v d → d.hasDict = false := by
  intro v d h
  refine Dp.rec (motive_1 := fun v d _ => d.hasDict = false) (motive_2 := fun vs ds _ => PyData.hasDictAll ds = false) ?_ ?_ ?_ ?_ ?_ ?_ ?_ ?_ h
  all_goals intros
  all_goals (try simp only [PyData.hasDict, PyData.hasDictAll, Bool.or_eq_false_iff])
  all_goals (try assumption)
  all_goals (try (constructor <;> assumption))
theorem call_uRepr (hr : Rm 1 X.A) : CallR X (.builtin "repr") (uRepr X.K) := by
  intro pins s σ H xs us Q I r h
  obtain ⟨v, d, rfl, hd, hs, hdep, hz, q⟩ := h
  obtain ⟨u, rfl, rx⟩ := vals1 r
  have hu : X.A.units + (d.depth + 1) < cLine := by
    have := hr.rm.un
    omega
  have hno := dp_noDict hd
  cases hd with
  | non => cases rx; exact PySem.P.repr_of_none ⟨.str _, H, I.tok _, ⟨_, rfl⟩, q⟩
  | bl b => cases rx; exact PySem.P.repr_of_bool ⟨.str _, H, I.tok _, ⟨_, rfl⟩, q⟩
  | int i =>
    obtain ⟨t, rfl⟩ := rx
    exact PySem.P.repr_of_int (of_decide_eq_true hs) ⟨.str _, H, I.tok _, ⟨_, rfl⟩, q⟩
  | str x =>
    obtain ⟨t, rfl⟩ := rx
    exact PySem.P.repr_of_str ⟨.str _, H, I.tok _, ⟨_, rfl⟩, q⟩ hz
  | lst hl ha =>
    cases rx
    obtain ⟨as, rd⟩ := Dp.reads I _ _ _ (.lst hl ha) rfl
    refine repr_of_reads' rd hs (fun z => absurd z (by rw [hno]; exact Bool.false_ne_true)) hr.gd hu (fun _ _ e => e) (fun h' u tk hk => ?_) hz
    exact ⟨.str _, H, I.kept (t' := tk) hk, ⟨_, rfl⟩, q⟩
  | tup hl ha =>
    cases rx
    obtain ⟨as, rd⟩ := Dp.reads I _ _ _ (.tup hl ha) rfl
    refine repr_of_reads' rd hs (fun z => absurd z (by rw [hno]; exact Bool.false_ne_true)) hr.gd hu (fun _ _ e => e) (fun h' u tk hk => ?_) hz
    exact ⟨.str _, H, I.kept (t' := tk) hk, ⟨_, rfl⟩, q⟩
end
end Wg

/-! Wagon, part 4: what is walked; words for defs and their bodies. -/
namespace Wg
open PySem PySem.Spec PyProof.Rows L2

section
variable {X : Cx}
/-- an expression's truth -/
def tTru (K : PySem.W.Frag) (ta : TE) : TT := fun σ H Q => ta σ H fun x H' => ∃ k, TruV K x H' k ∧ Q k H'
theorem pt_tru {a : Expr} {ta : TE} (ha : PE X a ta) (he : ∀ whole, isTrue a X.env whole = (do let v ← whole; standAt a.pos; holding [v] (truthy v)) := by intro _; rfl) : PT X a (tTru X.K ta) := pt_truth ha he
/-- a list, a tuple or a text that is walked -/
def iU (K : PySem.W.Frag) (tl : TE) : TI := fun σ H R => tl σ H fun x H1 =>
  (∃ a xs, x = .ref a ∧ SqL K H1 a xs ∧ R (Itl K a) H1) ∨ (∃ a xs, x = .ref a ∧ SqT K H1 a xs ∧ R (Itt K a) H1) ∨ (∃ z, x = .str z ∧ R (Its z) H1)
theorem pi_u {tg l : Expr} {tl : TE} (hl : PE X l tl) : PI X tg l (iU X.K tl) := by
  constructor
  intro pins s σ H R I h
  have run := hl.run pins s σ H _ I h
  refine thn run fun v s1 e => ?_
  obtain ⟨x, H1, I1, r1, q1⟩ := e
  have new : ∀ {o : Obj} {b : Addr}, b ∈ [s1.heap.objs.size] → FpOk X pins H1 b := fun {o b} hb => by
    rw [List.mem_singleton.mp hb]
    exact I1.fpOk (Nat.le_refl _) I1.fresh
  rcases q1 with ⟨a, xs, rfl, hq, q⟩ | ⟨a, xs, rfl, hq, q⟩ | ⟨z, rfl, q⟩
  · cases r1
    obtain ⟨its, rv, p, hz⟩ := I1.list hq
    refine wpAny_pyIter_list p.isList ⟨_, [s1.heap.objs.size], _, _, H1, rfl, I1.kept (t' := s1.toks) fun b o e => Heap.get?_push_of_some _ e, turn_list a _, ?_, fun b hb => ?_, q⟩
    · exact ⟨_, Heap.get?_push_size _ rfl, rfl, rfl⟩
    · exact new (o := default) hb
  · cases r1
    obtain ⟨its, rv, p, hz⟩ := I1.tuple hq
    refine wpAny_pyIter_tuple (show s1.heap.IsTuple a its.toArray from p) ⟨_, [s1.heap.objs.size], _, _, H1, rfl, I1.kept (t' := s1.toks) fun b o e => Heap.get?_push_of_some _ e, turn_tuple a _, ?_, fun b hb => ?_, q⟩
    · exact ⟨_, Heap.get?_push_size _ rfl, rfl, rfl⟩
    · exact new (o := default) hb
  · obtain ⟨t, rfl⟩ := r1
    match ha : z.cps.all (· < 128) with
    | false => exact wpAny_pyIter_wide ha (pi_one (tk := s1.toks) I1 _ (turn_str _ z t "str_iterator" (.inr rfl)) ⟨_, Heap.get?_push_size _ rfl, rfl, rfl⟩ q)
    | true => exact wpAny_pyIter_ascii ha (pi_one (tk := s1.toks) I1 _ (turn_str _ z t "str_ascii_iterator" (.inl rfl)) ⟨_, Heap.get?_push_size _ rfl, rfl, rfl⟩ q)
end

/-- a body as a promise: the values in the slots at the beginning -/
def run (t : TS) (σ : L2.St) (H : Hp) (Q : VK) : Prop := t { nx := fun _ H' => Q .non H', rt := Q } σ H
end Wg

namespace Wg
open PySem PySem.Spec PyProof.Rows L2
/-- a def of the text where it stands -/
structure Fn (K : PySem.W.Frag) (mg : Str → Option Value) (x : Str) (st : Stmt) (f : Addr) (fd : FuncData) (ps : List Str) : Prop where
  fn : Fun K x x st f fd
  g : mg x = some (.ref f)
  b : Binds K fd ps []

/-! ### data that stand still -/
mutual
inductive Dt (K : PySem.W.Frag) (H : Hp) : V → PyData → Prop
  | non : Dt K H .non .none
  | bl (b : Bool) : Dt K H (.bl b) (.bool b)
  | int (i : Int) : Dt K H (.int i) (.int i)
  | str (x : Str) : Dt K H (.str x) (.str x)
  | tup {a : Addr} {xs : List V} {ds : List PyData} : Tup H a xs → DtAll K H xs ds → Dt K H (.ref a) (.tuple ds)
inductive DtAll (K : PySem.W.Frag) (H : Hp) : List V → List PyData → Prop
  | nil : DtAll K H [] []
  | cons {v : V} {vs : List V} {d : PyData} {ds : List PyData} : Dt K H v d → DtAll K H vs ds → DtAll K H (v :: vs) (d :: ds)
end
mutual
theorem Dt.dp {K : PySem.W.Frag} {H : Hp} : ∀ {v : V} {d : PyData}, Dt K H v d → Dp K H v d
  | _, _, .non => .non
  | _, _, .bl b => .bl b
  | _, _, .int i => .int i
  | _, _, .str x => .str x
  | _, _, .tup t a => .tup t.sq a.dp
theorem DtAll.dp {K : PySem.W.Frag} {H : Hp} : ∀ {vs : List V} {ds : List PyData}, DtAll K H vs ds → DpAll K H vs ds
  | _, _, .nil => .nil
  | _, _, .cons h r => .cons h.dp r.dp
end
mutual
theorem Dt.reads {X : Cx} {pins : List (Addr × Obj)} {σ : L2.St} {H : Hp} {s : Shared} {K : PySem.W.Frag} (I : Inv X pins σ H s) : ∀ {v : V} {d : PyData}, Dt K H v d → ∀ {u : Value}, RelV v u → Reads s.heap u d []
  | _, _, .non, u, r => by cases r; exact .none
  | _, _, .bl b, u, r => by cases r; exact .bool b
  | _, _, .int i, u, r => by obtain ⟨t, rfl⟩ := r; exact .int i t
  | _, _, .str x, u, r => by obtain ⟨t, rfl⟩ := r; exact .str x t
  | _, _, .tup (a := a) t q, u, r => by
    cases r
    obtain ⟨its, n, rv, z, ho⟩ := t.obj I
    exact .tuple ho rfl rfl (DtAll.reads I q rv)
theorem DtAll.reads {X : Cx} {pins : List (Addr × Obj)} {σ : L2.St} {H : Hp} {s : Shared} {K : PySem.W.Frag} (I : Inv X pins σ H s) : ∀ {vs : List V} {ds : List PyData}, DtAll K H vs ds → ∀ {us : List Value}, Vals vs us → ReadsAll s.heap us ds []
  | _, _, .nil, _, r => by cases r; exact .nil
  | _, _, .cons h q, _, r => by
    cases r with
    | cons r1 r2 => exact .cons (Dt.reads I h r1) (DtAll.reads I q r2)
end
mutual
/-- a change of what is no tuple leaves them -/
theorem Dt.keep {K : PySem.W.Frag} {S : List Addr} {H H' : Hp} (k : Keep S H H') (n : ∀ a xs, Tup H a xs → a ∉ S) : ∀ {v : V} {d : PyData}, Dt K H v d → Dt K H' v d
  | _, _, .non => .non
  | _, _, .bl b => .bl b
  | _, _, .int i => .int i
  | _, _, .str x => .str x
  | _, _, .tup t a => .tup (t.keep k (n _ _ t)) (DtAll.keep k n a)
theorem DtAll.keep {K : PySem.W.Frag} {S : List Addr} {H H' : Hp} (k : Keep S H H') (n : ∀ a xs, Tup H a xs → a ∉ S) : ∀ {vs : List V} {ds : List PyData}, DtAll K H vs ds → DtAll K H' vs ds
  | _, _, .nil => .nil
  | _, _, .cons h r => .cons (Dt.keep k n h) (DtAll.keep k n r)
end
def keyD : Key → PyData
  | .inl i => .int i
  | .inr x => .str x
theorem pairs_reads {X : Cx} {pins : List (Addr × Obj)} {σ : L2.St} {H : Hp} {s : Shared} {K : PySem.W.Frag} (I : Inv X pins σ H s) : ∀ {es : List DictEntry} {kvs : List (Key × V)} {us : List (Key × Value)} {ds : List PyData},
    PySem.Pairs (mixKind X.prog X.w) es us → KV kvs us → DtAll K H (kvs.map (·.2)) ds →
      ReadsAll s.heap (es.map (·.key)) (kvs.map fun p => keyD p.1) [] ∧ ReadsAll s.heap (es.map (·.val)) ds []
  | _, _, _, _, .nil, .nil, .nil => ⟨.nil, .nil⟩
  | e :: es, (k, v) :: kvs, (k', u) :: us, d :: ds, .cons h1 h2 hr, .cons ⟨q1, q2⟩ qr, .cons hd hds => by
    obtain ⟨r1, r2⟩ := pairs_reads I hr qr hds
    have q1' : k = k' := q1
    have q2' : RelV v u := q2
    have hv : e.val = u := h2
    have hk : keyIs k' e.key = true := h1
    subst q1'
    have rv : Reads s.heap e.val d [] := by
      rw [hv]
      exact hd.reads I q2'
    refine ⟨.cons (as := []) (bs := []) ?_ r1, .cons (as := []) (bs := []) rv r2⟩
    show Reads s.heap e.key (keyD k) []
    rcases keyIs_shape hk with ⟨i, t, rfl, e2⟩ | ⟨x, t, rfl, e2⟩
    · rw [e2]; exact .int i t
    · rw [e2]; exact .str x t

section
variable {X : Cx}
/-- what repr tells of a dict of such data -/
def uReprD (K : PySem.W.Frag) : List V → Hp → VK → Prop := fun xs H Q => ∃ (a : Addr) (kvs : List (Key × V)) (ds : List PyData), xs = [.ref a] ∧ H a = some (.dK kvs) ∧ DtAll K H (kvs.map (·.2)) ds ∧
  (PyData.dict ((kvs.map fun p => keyD p.1).zip ds)).showable = true ∧ (PyData.dict ((kvs.map fun p => keyD p.1).zip ds)).depth ≤ 100 ∧ (PyData.dict ((kvs.map fun p => keyD p.1).zip ds)).shown.length ≤ sizeLine ∧
  Q (.str (PyData.dict ((kvs.map fun p => keyD p.1).zip ds)).shown) H
theorem DtAll.len {K : PySem.W.Frag} {H : Hp} : ∀ {vs : List V} {ds : List PyData}, DtAll K H vs ds → vs.length = ds.length
  | _, _, .nil => rfl
  | _, _, .cons _ r => congrArg (· + 1) r.len
theorem call_uReprD (hr : Rm 1 X.A) : CallR X (.builtin "repr") (uReprD X.K) := by
  intro pins s σ H xs us Q I r h
  obtain ⟨a, kvs, ds, rfl, ha, hd, hs, hdep, hz, q⟩ := h
  obtain ⟨u, rfl, rx⟩ := vals1 r
  cases rx
  obtain ⟨z, hsy, ws, kv, o, es, ep, ho, ex, hdat, _, hp, _⟩ := I.hok a _ ha
  obtain ⟨r1, r2⟩ := pairs_reads I hp kv hd
  have hl := hd.len
  rw [List.length_map] at hl
  have e1 : ((kvs.map fun p => keyD p.1).zip ds).map (·.1) = kvs.map fun p => keyD p.1 := List.map_fst_zip (by rw [List.length_map]; omega)
  have e2 : ((kvs.map fun p => keyD p.1).zip ds).map (·.2) = ds := List.map_snd_zip (by rw [List.length_map]; omega)
  have rd : Reads s.heap (.ref a) (PyData.dict ((kvs.map fun p => keyD p.1).zip ds)) (a :: [] ++ []) := .dict ho ex.1 hdat (by rw [e1]; exact r1) (by rw [e2]; exact r2)
  have hu : X.A.units + ((PyData.dict ((kvs.map fun p => keyD p.1).zip ds)).depth + 1) < cLine := by
    have := hr.rm.un
    omega
  refine repr_of_reads' rd hs (fun _ hm => ?_) hr.gd hu (fun _ _ e => e) (fun h' u tk hk => ?_) hz
  · have e : sysModules = a := by simpa using hm
    rw [e] at hsy
    simp at hsy
  · exact ⟨.str _, H, I.kept (t' := tk) hk, ⟨_, rfl⟩, q⟩
def uRep (K : PySem.W.Frag) : List V → Hp → VK → Prop := fun xs H Q => uRepr K xs H Q ∨ uReprD K xs H Q
theorem call_uRep (hr : Rm 1 X.A) : CallR X (.builtin "repr") (uRep X.K) := (call_uRepr hr).or (call_uReprD hr)

def uLen (K : PySem.W.Frag) : List V → Hp → VK → Prop := fun xs H Q => ∃ x n, xs = [x] ∧ LenV K x H n ∧ Q (.int n) H
theorem call_uLen : CallR X (.builtin "len") (uLen X.K) := call_len
def uAbs : List V → Hp → VK → Prop := fun xs H Q => ∃ i, xs = [.int i] ∧ Q (.int (if i < 0 then -i else i)) H
theorem call_uAbs : CallR X (.builtin "abs") uAbs := call_abs
def uMax2 : List V → Hp → VK → Prop := fun xs H Q => ∃ i j, xs = [.int i, .int j] ∧ Q (.int (if j > i then j else i)) H
theorem call_uMax2 (hc : X.calm = true) : CallR X (.builtin "max") uMax2 := call_max2 hc
def uMin2 : List V → Hp → VK → Prop := fun xs H Q => ∃ i j, xs = [.int i, .int j] ∧ Q (.int (if j < i then j else i)) H
theorem call_uMin2 (hc : X.calm = true) : CallR X (.builtin "min") uMin2 := call_min2 hc
def uStr : List V → Hp → VK → Prop := fun xs H Q => ∃ i, xs = [.int i] ∧ i.natAbs.log2 < 1920 ∧ Q (.str (toString i)) H
theorem call_uStr : CallR X (.type "str") uStr := call_str_int
def uInt : List V → Hp → VK → Prop := fun xs H Q => (∃ i, xs = [.int i] ∧ Q (.int i) H) ∨ ∃ k, xs = [.bl k] ∧ Q (.int (if k then 1 else 0)) H
theorem call_uInt : CallR X (.type "int") uInt := call_int1
def rIsN : R2 := fun x y H Q => y = .non ∧ Q (.bl (decide (x = .non))) H
def rNotN : R2 := fun x y H Q => y = .non ∧ Q (.bl (!decide (x = .non))) H

/-! ### methods -/
def uAppend : V → List V → Hp → VK → Prop := fun x vs H Q => ∃ l xs y, x = .ref l ∧ vs = [y] ∧ H l = some (.lst xs) ∧ xs.length < sizeLine ∧ Ch H l (.lst (xs ++ [y])) (Q .non)
theorem mt_uAppend : MtM X "list.append" uAppend := by
  intro pins s σ H x vs v us Q I rx rv h
  obtain ⟨l, xs, y, e1, e2, h1, h2, q⟩ := h
  exact mt_append pins s σ H x vs v us Q I rx rv ⟨l, xs, y, e1, e2, h1, h2, q.at⟩
end
end Wg

/-! Wagon, part 5: how a reading goes on, construct by construct. -/
namespace Wg
open PySem PySem.Spec PyProof.Rows L2

section
variable {K : PySem.W.Frag} {H : Hp} {Q : VK} {i j : Int}
theorem e_rI {C : Int → Int → Prop} {g : Int → Int → V} : rI C g (.int i) (.int j) H Q ↔ C i j ∧ Q (g i j) H := by
  constructor
  · rintro ⟨a, b, e1, e2, c, q⟩
    cases e1; cases e2; exact ⟨c, q⟩
  · rintro ⟨c, q⟩; exact ⟨i, j, rfl, rfl, c, q⟩
theorem e_rI0 {g : Int → Int → V} : rI0 g (.int i) (.int j) H Q ↔ Q (g i j) H := by
  constructor
  · rintro ⟨a, b, e1, e2, q⟩
    cases e1; cases e2; exact q
  · intro q; exact ⟨i, j, rfl, rfl, q⟩
theorem e_rU {g : Int → V} : rU g (.int i) H Q ↔ Q (g i) H := by
  constructor
  · rintro ⟨a, e1, q⟩
    cases e1; exact q
  · intro q; exact ⟨i, rfl, q⟩
theorem e_addI : uAdd K (.int i) (.int j) H Q ↔ Q (.int (i + j)) H := by
  constructor
  · rintro (⟨a, b, e1, e2, q⟩ | ⟨a, b, e1, _⟩ | ⟨a, b, _, _, e1, _⟩ | ⟨a, b, _, _, e1, _⟩) <;> first | cases e1; cases e2; exact q | cases e1
  · intro q; exact .inl ⟨i, j, rfl, rfl, q⟩
theorem e_addS {x y : Str} : uAdd K (.str x) (.str y) H Q ↔ x.length + y.length ≤ sizeLine ∧ Q (.str (x ++ y)) H := by
  constructor
  · rintro (⟨a, b, e1, _⟩ | ⟨a, b, e1, e2, z, q⟩ | ⟨a, b, _, _, e1, _⟩ | ⟨a, b, _, _, e1, _⟩) <;> first | cases e1; cases e2; exact ⟨z, q⟩ | cases e1
  · rintro ⟨z, q⟩; exact .inr (.inl ⟨x, y, rfl, rfl, z, q⟩)
theorem e_mulI : uMul (.int i) (.int j) H Q ↔ CMul i j ∧ Q (.int (i * j)) H := by
  constructor
  · rintro (⟨a, b, e1, e2, c, q⟩ | ⟨a, b, _, e1, _⟩) <;> first | cases e1; cases e2; exact ⟨c, q⟩ | cases e1
  · rintro ⟨c, q⟩; exact .inl ⟨i, j, rfl, rfl, c, q⟩
theorem e_abs : uAbs [.int i] H Q ↔ Q (.int (if i < 0 then -i else i)) H := by
  constructor
  · rintro ⟨a, e1, q⟩
    cases e1; exact q
  · intro q; exact ⟨i, rfl, q⟩
theorem e_max2 : uMax2 [.int i, .int j] H Q ↔ Q (.int (if j > i then j else i)) H := by
  constructor
  · rintro ⟨a, b, e1, q⟩
    cases e1; exact q
  · intro q; exact ⟨i, j, rfl, q⟩
theorem e_min2 : uMin2 [.int i, .int j] H Q ↔ Q (.int (if j < i then j else i)) H := by
  constructor
  · rintro ⟨a, b, e1, q⟩
    cases e1; exact q
  · intro q; exact ⟨i, j, rfl, q⟩
theorem e_str : uStr [.int i] H Q ↔ i.natAbs.log2 < 1920 ∧ Q (.str (toString i)) H := by
  constructor
  · rintro ⟨a, e1, z, q⟩
    cases e1; exact ⟨z, q⟩
  · rintro ⟨z, q⟩; exact ⟨i, rfl, z, q⟩
theorem e_intI : uInt [.int i] H Q ↔ Q (.int i) H := by
  constructor
  · rintro (⟨a, e1, q⟩ | ⟨a, e1, q⟩) <;> cases e1; exact q
  · intro q; exact .inl ⟨i, rfl, q⟩
theorem e_intB {k : Bool} : uInt [.bl k] H Q ↔ Q (.int (if k then 1 else 0)) H := by
  constructor
  · rintro (⟨a, e1, q⟩ | ⟨a, e1, q⟩) <;> cases e1; exact q
  · intro q; exact .inr ⟨k, rfl, q⟩
theorem e_isN {x : V} : rIsN x .non H Q ↔ Q (.bl (decide (x = .non))) H := ⟨fun h => h.2, fun q => ⟨rfl, q⟩⟩
theorem e_notN {x : V} : rNotN x .non H Q ↔ Q (.bl (!decide (x = .non))) H := ⟨fun h => h.2, fun q => ⟨rfl, q⟩⟩
theorem e_truB {k k' : Bool} : TruV K (.bl k) H k' ↔ k' = k := Iff.rfl
theorem e_truI {k' : Bool} : TruV K (.int i) H k' ↔ k' = (i != 0) := Iff.rfl
/-- equality of scalars -/
theorem g_eq {x y : V} (h : scal x y = true) (q : Q (.bl (decide (x = y))) H) : uEq K false x y H Q := .inl ⟨h, by simpa using q⟩
theorem g_ne {x y : V} (h : scal x y = true) (q : Q (.bl (!decide (x = y))) H) : uEq K true x y H Q := .inl ⟨h, by simpa using q⟩
/-- an item of a list, of a tuple -/
theorem g_ixL {p : Addr} {xs : List V} {v : V} (h : H p = some (.lst xs)) (e : atI xs i = some v) (q : Q v H) : uIx K (.ref p) (.int i) H Q := .inl ⟨p, xs, i, v, rfl, rfl, .inl (lst_sq h), e, q⟩
theorem g_ixT {p : Addr} {xs : List V} {v : V} (h : Tup H p xs) (e : atI xs i = some v) (q : Q v H) : uIx K (.ref p) (.int i) H Q := .inl ⟨p, xs, i, v, rfl, rfl, .inr h.sq, e, q⟩
theorem g_ixQ {p : Addr} {xs : List V} {v : V} (h : SqL K H p xs) (e : atI xs i = some v) (q : Q v H) : uIx K (.ref p) (.int i) H Q := .inl ⟨p, xs, i, v, rfl, rfl, .inl h, e, q⟩
theorem g_ixS {z : Str} {c : Nat} (h : z.length ≤ sizeLine) (e : atI z.cps.toList i = some c) (q : Q (.str ⟨#[c]⟩) H) : uIx K (.str z) (.int i) H Q := .inr ⟨z, i, c, rfl, rfl, h, e, q⟩
/-- an item stored -/
theorem g_setL {p : Addr} {xs : List V} {v : V} {k : Nat} {R : Hp → Prop} (h : H p = some (.lst xs)) (e : ixN xs.length i = some k) (q : ∀ H', Keep [p] H H' → H' p = some (.lst (xs.set k v)) → R H') : uSetL (.ref p) (.int i) v H R :=
  ⟨p, xs, i, k, rfl, rfl, h, e, q⟩
theorem g_addL {a b : Addr} {xs ys : List V} (h1 : H a = some (.lst xs)) (h2 : H b = some (.lst ys)) (z : xs.length + ys.length ≤ sizeLine) (q : ∀ p H', H p = none → Keep [] H H' → H' p = some (.lst (xs ++ ys)) → Q (.ref p) H') : uAdd K (.ref a) (.ref b) H Q :=
  .inr (.inr (.inl ⟨a, b, xs, ys, rfl, rfl, h1, h2, z, q⟩))
theorem g_addT {a b : Addr} {xs ys : List V} (h1 : Tup H a xs) (h2 : Tup H b ys) (z : xs.length + ys.length ≤ sizeLine) (q : ∀ p H', Keep [] H H' → Tup H' p (xs ++ ys) → Q (.ref p) H') : uAdd K (.ref a) (.ref b) H Q := by
  refine .inr (.inr (.inr ⟨a, b, xs, ys, rfl, rfl, h1, h2, z, fun e => ?_, fun _ e => ?_, fun _ _ p H' _ k t => q p H' k t⟩))
  · subst e
    exact q b H (Keep.refl _ _) h2
  · subst e
    exact q a H (Keep.refl _ _) (by rw [List.append_nil]; exact h1)
theorem g_lenL {p : Addr} {xs : List V} (h : H p = some (.lst xs)) (q : Q (.int xs.length) H) : uLen K [.ref p] H Q := ⟨.ref p, xs.length, rfl, .inl ⟨xs, lst_sq h, rfl⟩, q⟩
theorem g_lenT {p : Addr} {xs : List V} (h : Tup H p xs) (q : Q (.int xs.length) H) : uLen K [.ref p] H Q := ⟨.ref p, xs.length, rfl, .inr ⟨xs, h.sq, rfl⟩, q⟩
theorem g_lenQ {p : Addr} {xs : List V} (h : SqL K H p xs) (q : Q (.int xs.length) H) : uLen K [.ref p] H Q := ⟨.ref p, xs.length, rfl, .inl ⟨xs, h, rfl⟩, q⟩
theorem g_lenS {z : Str} (h : z.length ≤ sizeLine) (q : Q (.int z.length) H) : uLen K [.str z] H Q := ⟨.str z, z.length, rfl, ⟨h, rfl⟩, q⟩
theorem g_repr {v : V} {d : PyData} (h : Dp K H v d) (h1 : d.showable = true) (h2 : d.depth ≤ 100) (h3 : d.shown.length ≤ sizeLine) (q : Q (.str d.shown) H) : uRep K [v] H Q := .inl ⟨v, d, rfl, h, h1, h2, h3, q⟩
theorem g_append {l : Addr} {xs : List V} {y : V} (h : H l = some (.lst xs)) (z : xs.length < sizeLine) (q : ∀ H', Keep [l] H H' → H' l = some (.lst (xs ++ [y])) → Q .non H') : uAppend (.ref l) [y] H Q := ⟨l, xs, y, rfl, rfl, h, z, q⟩
theorem g_listL {p : Addr} {ys : List V} (h : H p = some (.lst ys)) (q : ∀ l H', H l = none → Keep [] H H' → H' l = some (.lst ys) → Q (.ref l) H') : uList K [.ref p] H Q := ⟨p, ys, rfl, .inl (lst_sq h), q⟩
theorem g_listT {p : Addr} {ys : List V} (h : Tup H p ys) (q : ∀ l H', H l = none → Keep [] H H' → H' l = some (.lst ys) → Q (.ref l) H') : uList K [.ref p] H Q := ⟨p, ys, rfl, .inr h.sq, q⟩
theorem g_tupleL {p : Addr} {ys : List V} (h : H p = some (.lst ys)) (q : ∀ l H', H l = none → Keep [] H H' → Tup H' l ys → Q (.ref l) H') : uTuple K [.ref p] H Q := ⟨p, ys, rfl, .inl ⟨lst_sq h, q⟩⟩
theorem g_slL {p : Addr} {xs : List V} {lo hi : Option Int} (h : SqL K H p xs) (q : ∀ l H', H l = none → Keep [] H H' → H' l = some (.lst (cutV xs lo hi)) → Q (.ref l) H') : uSl K (.ref p) lo hi H Q := .inl ⟨p, xs, rfl, h, q⟩
theorem g_slS {z : Str} {lo hi : Option Int} (h : z.length ≤ sizeLine) (q : Q (.str (cutS z lo hi)) H) : uSl K (.str z) lo hi H Q := .inr (.inl ⟨z, rfl, h, q⟩)
theorem cut_all {xs : List V} {lo hi : Option Int} (h : HT.sIx xs.length 0 lo = 0 ∧ HT.sIx xs.length xs.length hi = xs.length) : cutV xs lo hi = xs := by
  unfold cutV
  rw [h.1, h.2]
  exact List.take_length
theorem g_slT {p : Addr} {xs : List V} {lo hi : Option Int} (h : Tup H p xs) (q : ∀ l H', Keep [] H H' → Tup H' l (cutV xs lo hi) → Q (.ref l) H') : uSl K (.ref p) lo hi H Q := by
  refine .inr (.inr ⟨p, xs, rfl, h, fun e => ?_, fun _ l H' _ k t => q l H' k t⟩)
  exact q p H (Keep.refl _ _) (by rw [cut_all e]; exact h)
/-- a slot's value by its place -/
theorem at_lit {α : Type} {xs : List α} {v : α} {i : Int} (j : Nat) (e : i = (j : Int)) (h : xs[j]? = some v) : atI xs i = some v := by
  subst e
  exact atI_nat h
end

/-! ### what isinstance tells -/
section
variable {K : PySem.W.Frag} {H : Hp} {Q : VK}
theorem ty_tup {a : Addr} {xs : List V} (h : Tup H a xs) : TyX K H (.ref a) (.type "tuple") := let ⟨_, e, _⟩ := h; .fTuple e
theorem g_isi {x : V} {n T : String} {k : Bool} (h : TyX K H x (.type n)) (e : kitB n T = some k) (q : Q (.bl k) H) : rIsi K [x, .ty T] H Q := ⟨x, .ty T, _, _, k, rfl, .ty T, h, kit_ty e, q⟩
end
theorem kit_int_int : kitB "int" "int" = some true := by decide +kernel
theorem kit_bool_int : kitB "bool" "int" = some true := by decide +kernel
theorem kit_str_int : kitB "str" "int" = some false := by decide +kernel
theorem kit_none_int : kitB "NoneType" "int" = some false := by decide +kernel
theorem kit_list_int : kitB "list" "int" = some false := by decide +kernel
theorem kit_tuple_int : kitB "tuple" "int" = some false := by decide +kernel
theorem kit_dict_int : kitB "dict" "int" = some false := by decide +kernel
theorem kit_int_bool : kitB "int" "bool" = some false := by decide +kernel
theorem kit_bool_bool : kitB "bool" "bool" = some true := by decide +kernel
theorem kit_str_bool : kitB "str" "bool" = some false := by decide +kernel
theorem kit_none_bool : kitB "NoneType" "bool" = some false := by decide +kernel
theorem kit_list_bool : kitB "list" "bool" = some false := by decide +kernel
theorem kit_tuple_bool : kitB "tuple" "bool" = some false := by decide +kernel
theorem kit_dict_bool : kitB "dict" "bool" = some false := by decide +kernel
end Wg

/-! Wagon, part 6: how long what repr tells is; things as a law's lists hold them. -/
namespace Wg
open PySem PySem.Spec PyProof.Rows L2

/-! ### how long -/
mutual
def cost : PyData → Nat
  | .none => 4
  | .bool _ => 5
  | .int _ => 1921
  | .str x => 10 * x.length + 2
  | .list xs => costs xs + 2
  | .tuple xs => costs xs + 3
  | .dict kvs => costKv kvs + 2
def costs : List PyData → Nat
  | [] => 0
  | x :: xs => cost x + 2 + costs xs
def costKv : List (PyData × PyData) → Nat
  | [] => 0
  | (k, v) :: r => cost k + 2 + cost v + 2 + costKv r
end
/-- texts of moderate signs, whole numbers that str can write -/
def signsOk (x : Str) : Prop := ∀ c ∈ x.cps.toList, c < 16 ^ 8
mutual
def fine : PyData → Prop
  | .none => True
  | .bool _ => True
  | .int i => i.natAbs.log2 < 1920
  | .str x => signsOk x
  | .list xs => fines xs
  | .tuple xs => fines xs
  | .dict kvs => fineKv kvs
def fines : List PyData → Prop
  | [] => True
  | x :: xs => fine x ∧ fines xs
def fineKv : List (PyData × PyData) → Prop
  | [] => True
  | (k, v) :: r => fine k ∧ fine v ∧ fineKv r
end
mutual
theorem fine_show : ∀ {d : PyData}, fine d → d.showable = true
  | .none, _ => rfl
  | .bool _, _ => rfl
  | .int i, h => decide_eq_true h
  | .str _, _ => rfl
  | .list xs, h => by simp only [PyData.showable]; exact fines_show h
  | .tuple xs, h => by simp only [PyData.showable]; exact fines_show h
  | .dict kvs, h => by simp only [PyData.showable]; exact fineKv_show h
theorem fines_show : ∀ {ds : List PyData}, fines ds → PyData.showableAll ds = true
  | [], _ => rfl
  | d :: ds, h => by simp only [PyData.showableAll, Bool.and_eq_true]; exact ⟨fine_show h.1, fines_show h.2⟩
theorem fineKv_show : ∀ {ds : List (PyData × PyData)}, fineKv ds → PyData.showableKv ds = true
  | [], _ => rfl
  | (k, v) :: ds, h => by simp only [PyData.showableKv, Bool.and_eq_true]; exact ⟨⟨fine_show h.1, fine_show h.2.1⟩, fineKv_show h.2.2⟩
end
theorem list_text (ts : List Str) : (listText ts).length ≤ piled ts + 2 := by
  have key : ∀ (ts : List Str) (k : Nat) (acc : Str), (textFrom k acc ts).length ≤ acc.length + piled ts := by
    intro ts
    induction ts with
    | nil =>
      intro k acc
      simp [textFrom, piled]
    | cons t r ih =>
      intro k acc
      have q := ih (k + 1) (acc ++ (if k > 0 then ", " else "" : String) ++ t)
      have e2 : (((if k > 0 then ", " else "" : String) : Str)).length ≤ 2 := by split <;> decide +kernel
      rw [strLen_append, strLen_append] at q
      show (textFrom (k + 1) (acc ++ (if k > 0 then ", " else "" : String) ++ t) r).length ≤ _
      rw [piled_cons]
      omega
  unfold listText
  have e1 : (("[" : String) : Str).length = 1 := rfl
  have e2 : (("]" : String) : Str).length = 1 := rfl
  have q := key ts 0 "["
  rw [strLen_append, e2]
  rw [e1] at q
  omega
theorem tuple_text (ts : List Str) : (tupleText ts).length ≤ piled ts + 3 := by
  unfold tupleText
  have e1 : (("(" : String) : Str).length = 1 := rfl
  have e3 : (((if ts.length == 1 then ",)" else ")" : String) : Str)).length ≤ 2 := by split <;> decide +kernel
  rw [strLen_append, strLen_append, e1]
  by_cases h : ts = []
  · subst h
    decide +kernel
  · have := join_length_add ts h
    omega
theorem dict_text (ts : List Str) : (dictText ts).length ≤ piled ts + 2 := by
  unfold dictText
  have e1 : (("{" : String) : Str).length = 1 := rfl
  have e3 : (("}" : String) : Str).length = 1 := rfl
  rw [strLen_append, strLen_append, e1, e3]
  by_cases h : ts = []
  · subst h
    decide +kernel
  · have := join_length_add ts h
    omega
mutual
theorem shown_le : ∀ {d : PyData}, fine d → d.shown.length ≤ cost d
  | .none, _ => by decide +kernel
  | .bool b, _ => by cases b <;> decide +kernel
  | .int i, h => by
    simp only [PyData.shown, cost]
    rw [PySem.ofString_length]
    exact int_text_length_le (by decide) h
  | .str x, h => by
    simp only [PyData.shown, cost]
    exact StrLaws.reprText_len x h
  | .list xs, h => by
    simp only [PyData.shown, cost]
    have := list_text (PyData.shownAll xs)
    have := shownAll_le h
    omega
  | .tuple xs, h => by
    simp only [PyData.shown, cost]
    have := tuple_text (PyData.shownAll xs)
    have := shownAll_le h
    omega
  | .dict kvs, h => by
    simp only [PyData.shown, cost]
    have := dict_text (PyData.shownKv kvs)
    have := shownKv_le h
    omega
theorem shownAll_le : ∀ {ds : List PyData}, fines ds → piled (PyData.shownAll ds) ≤ costs ds
  | [], _ => Nat.le_refl _
  | d :: ds, h => by
    have h1 := shown_le h.1
    have h2 := shownAll_le h.2
    simp only [PyData.shownAll, costs, piled_cons]
    omega
theorem shownKv_le : ∀ {ds : List (PyData × PyData)}, fineKv ds → piled (PyData.shownKv ds) ≤ costKv ds
  | [], _ => Nat.le_refl _
  | (k, v) :: ds, h => by
    have h1 := shown_le h.1
    have h2 := shown_le h.2.1
    have h3 := shownKv_le h.2.2
    have e : ((": " : String) : Str).length = 2 := rfl
    simp only [PyData.shownKv, costKv, piled_cons, strLen_append, e]
    omega
end
mutual
theorem Dp.keep {K : PySem.W.Frag} {H H' : Hp} (k : Keep [] H H') : ∀ {v : V} {d : PyData}, Dp K H v d → Dp K H' v d
  | _, _, .non => .non
  | _, _, .bl b => .bl b
  | _, _, .int i => .int i
  | _, _, .str x => .str x
  | _, _, .lst h q => .lst (sq_keep h k nin0) (DpAll.keep k q)
  | _, _, .tup h q => .tup (by
      rcases h with (h | ⟨o, h⟩) | h
      · exact .inl (.inl (k _ _ nin0 h))
      · exact .inl (.inr ⟨o, k _ _ nin0 h⟩)
      · exact .inr h) (DpAll.keep k q)
theorem DpAll.keep {K : PySem.W.Frag} {H H' : Hp} (k : Keep [] H H') : ∀ {vs : List V} {ds : List PyData}, DpAll K H vs ds → DpAll K H' vs ds
  | _, _, .nil => .nil
  | _, _, .cons h q => .cons (Dp.keep k h) (DpAll.keep k q)
end
/-- a thing that repr tells -/
inductive Th (K : PySem.W.Frag) (H : Hp) : V → PyData → Prop
  | dp {v : V} {d : PyData} : Dp K H v d → fine d → cost d ≤ 10000000 → d.depth ≤ 100 → Th K H v d
  | dic {a : Addr} {kvs : List (Key × V)} {ds : List PyData} : H a = some (.dK kvs) → DtAll K H (kvs.map (·.2)) ds → fine (.dict ((kvs.map fun p => keyD p.1).zip ds)) → cost (.dict ((kvs.map fun p => keyD p.1).zip ds)) ≤ 10000000 →
      (PyData.dict ((kvs.map fun p => keyD p.1).zip ds)).depth ≤ 100 → Th K H (.ref a) (.dict ((kvs.map fun p => keyD p.1).zip ds))
theorem line_big {n : Nat} (h : n ≤ 10000000) : n ≤ sizeLine := by
  rw [sizeLine_eq]
  omega
theorem g_rep {K : PySem.W.Frag} {H : Hp} {v : V} {d : PyData} {Q : VK} (h : Th K H v d) (q : Q (.str d.shown) H) : uRep K [v] H Q := by
  cases h with
  | dp h1 h2 h3 h4 => exact .inl ⟨v, d, rfl, h1, fine_show h2, h4, Nat.le_trans (shown_le h2) (line_big h3), q⟩
  | dic h1 h2 h3 h4 h5 => exact .inr ⟨_, _, _, rfl, h1, h2, fine_show h3, h5, Nat.le_trans (shown_le h3) (line_big h4), q⟩
theorem Th.keep {K : PySem.W.Frag} {H H' : Hp} (k : Keep [] H H') {v : V} {d : PyData} (h : Th K H v d) : Th K H' v d := by
  cases h with
  | dp h1 h2 h3 h4 => exact .dp (Dp.keep k h1) h2 h3 h4
  | dic h1 h2 h3 h4 h5 => exact .dic (k _ _ nin0 h1) (h2.keep k fun _ _ _ => nin0) h3 h4 h5
end Wg

/-! Wagon, part 7: loops and comprehensions by what holds ahead of each turn. -/
namespace Wg
open PySem PySem.Spec PyProof.Rows L2

/-- n turns, the i-th with the item it i -/
def Loop (n : Nat) (it : Nat → V) (g : TG) (tb : TS) (D : Ends) (σ : L2.St) (H : Hp) : Prop :=
  ∃ Pv : Nat → L2.St → Hp → Prop, Pv 0 σ H ∧ (∀ i σ H, i < n → Pv i σ H → g (it i) σ H fun σ2 H2 => tb { D with nx := Pv (i + 1), ct := Pv (i + 1), bk := D.nx } σ2 H2) ∧ ∀ σ H, Pv n σ H → D.nx σ H
/-- the same, told of the argument's end -/
theorem L_range1 {g : TG} {tb : TS} {D : Ends} {σ : L2.St} {H1 : Hp} {j : Int} (b1 : -(2 ^ 62) ≤ j) (b2 : j < 2 ^ 62) (h : Loop j.toNat (fun i => .int (i : Nat)) g tb D σ H1) :
    ∃ k : Int, [V.int j] = [V.int k] ∧ -(2 ^ 62) ≤ k ∧ k < 2 ^ 62 ∧ ∃ W : Nat → Nat → L2.St → Hp → Prop, (∃ m, W 0 m σ H1) ∧ ∀ i m σ H, W i m σ H →
      ((Itr 0 k.toNat).stop i H ∧ D.nx σ H) ∨ ((Itr 0 k.toNat).go i H ∧ ∃ N : L2.St → Hp → Prop, (∀ σ' H', N σ' H' → ∃ m', m' < m ∧ W (i + 1) m' σ' H') ∧ ∀ x H', (Itr 0 k.toNat).yld i H x H' → g x σ H' fun σ2 H2 => tb { D with nx := N, ct := N, bk := D.nx } σ2 H2) := by
  obtain ⟨Pv, p0, ps, pd⟩ := h
  refine ⟨j, rfl, b1, b2, for_range (lo := 0) (n := j.toNat) Pv p0 (fun i σ H hi p => ?_) pd⟩
  have q := ps i σ H hi p
  rw [Int.zero_add]
  exact q
/-- what a for over range asks, behind its argument -/
def FR1 (g : TG) (tb : TS) (D : Ends) (σ : L2.St) (vs : List V) (H1 : Hp) : Prop := ∃ j : Int, vs = [.int j] ∧ -(2 ^ 62) ≤ j ∧ j < 2 ^ 62 ∧ ∃ W : Nat → Nat → L2.St → Hp → Prop, (∃ m, W 0 m σ H1) ∧ ∀ i m σ H, W i m σ H →
  ((Itr 0 j.toNat).stop i H ∧ D.nx σ H) ∨ ((Itr 0 j.toNat).go i H ∧ ∃ N : L2.St → Hp → Prop, (∀ σ' H', N σ' H' → ∃ m', m' < m ∧ W (i + 1) m' σ' H') ∧ ∀ x H', (Itr 0 j.toNat).yld i H x H' → g x σ H' fun σ2 H2 => tb { D with nx := N, ct := N, bk := D.nx } σ2 H2)
theorem e_for1 {ta : TA} {g : TG} {tb : TS} {D : Ends} {σ : L2.St} {H : Hp} : tFor (iRng1 ta) g tb D σ H ↔ ta σ H (FR1 g tb D σ) := Iff.rfl
theorem g_FR1 {g : TG} {tb : TS} {D : Ends} {σ : L2.St} {H1 : Hp} {j : Int} (b1 : -(2 ^ 62) ≤ j) (b2 : j < 2 ^ 62) (h : Loop j.toNat (fun i => .int (i : Nat)) g tb D σ H1) : FR1 g tb D σ [.int j] H1 := L_range1 b1 b2 h
def FR2 (g : TG) (tb : TS) (D : Ends) (σ : L2.St) (vs : List V) (H1 : Hp) : Prop := ∃ i0 j : Int, vs = [.int i0, .int j] ∧ (-(2 ^ 62) ≤ i0 ∧ i0 < 2 ^ 62 ∧ -(2 ^ 62) ≤ j ∧ j < 2 ^ 62) ∧ ∃ W : Nat → Nat → L2.St → Hp → Prop, (∃ m, W 0 m σ H1) ∧ ∀ i m σ H, W i m σ H →
  ((Itr i0 (j - i0).toNat).stop i H ∧ D.nx σ H) ∨ ((Itr i0 (j - i0).toNat).go i H ∧ ∃ N : L2.St → Hp → Prop, (∀ σ' H', N σ' H' → ∃ m', m' < m ∧ W (i + 1) m' σ' H') ∧ ∀ x H', (Itr i0 (j - i0).toNat).yld i H x H' → g x σ H' fun σ2 H2 => tb { D with nx := N, ct := N, bk := D.nx } σ2 H2)
theorem e_for2 {ta : TA} {g : TG} {tb : TS} {D : Ends} {σ : L2.St} {H : Hp} : tFor (iRng2 ta) g tb D σ H ↔ ta σ H (FR2 g tb D σ) := Iff.rfl
/-- a for over a list, a tuple, a text, behind it -/
def FU (K : PySem.W.Frag) (g : TG) (tb : TS) (D : Ends) (σ : L2.St) (x : V) (H1 : Hp) : Prop := iU K (tC x) σ H1 fun J H1 => ∃ W : Nat → Nat → L2.St → Hp → Prop, (∃ m, W 0 m σ H1) ∧ ∀ i m σ H, W i m σ H →
  (J.stop i H ∧ D.nx σ H) ∨ (J.go i H ∧ ∃ N : L2.St → Hp → Prop, (∀ σ' H', N σ' H' → ∃ m', m' < m ∧ W (i + 1) m' σ' H') ∧ ∀ x H', J.yld i H x H' → g x σ H' fun σ2 H2 => tb { D with nx := N, ct := N, bk := D.nx } σ2 H2)
theorem e_forU {K : PySem.W.Frag} {tl : TE} {g : TG} {tb : TS} {D : Ends} {σ : L2.St} {H : Hp} : tFor (iU K tl) g tb D σ H ↔ tl σ H (FU K g tb D σ) := Iff.rfl
/-- over a list that stands still -/
theorem g_FL {K : PySem.W.Frag} {g : TG} {tb : TS} {D : Ends} {σ : L2.St} {H1 : Hp} {a : Addr} {xs : List V} (Pv : Nat → L2.St → Hp → Prop) (h : SqL K H1 a xs) (h0 : Pv 0 σ H1) (hl : ∀ i σ H, i ≤ xs.length → Pv i σ H → SqL K H a xs)
    (hs : ∀ i x σ H, xs[i]? = some x → Pv i σ H → g x σ H fun σ2 H2 => tb { D with nx := Pv (i + 1), ct := Pv (i + 1), bk := D.nx } σ2 H2) (hd : ∀ σ H, Pv xs.length σ H → D.nx σ H) : FU K g tb D σ (.ref a) H1 :=
  .inl ⟨a, xs, rfl, h, for_list Pv h0 hl hs hd⟩
theorem g_FT {K : PySem.W.Frag} {g : TG} {tb : TS} {D : Ends} {σ : L2.St} {H1 : Hp} {a : Addr} {xs : List V} (Pv : Nat → L2.St → Hp → Prop) (h : Tup H1 a xs) (h0 : Pv 0 σ H1) (hl : ∀ i σ H, i ≤ xs.length → Pv i σ H → Tup H a xs)
    (hs : ∀ i x σ H, xs[i]? = some x → Pv i σ H → g x σ H fun σ2 H2 => tb { D with nx := Pv (i + 1), ct := Pv (i + 1), bk := D.nx } σ2 H2) (hd : ∀ σ H, Pv xs.length σ H → D.nx σ H) : FU K g tb D σ (.ref a) H1 :=
  .inr (.inl ⟨a, xs, rfl, h.sq, for_tup Pv h0 (fun i σ H l p => (hl i σ H l p).sq) hs hd⟩)
/-- the script: locked, or an object of the module -/
def Scr (K : PySem.W.Frag) (H : Hp) (a : Addr) (xs : List V) : Prop :=
  (∃ o, H a = some (.frz o (.lst xs))) ∨ ∃ (o : Obj) (its : Array Value) (n : Nat), K.lookup a = some o ∧ o.cls = .type "list" ∧ o.dict = none ∧ o.data = .seq its n ∧ its.size ≤ sizeLine ∧ Vals xs its.toList
theorem Scr.sq {K : PySem.W.Frag} {H : Hp} {a : Addr} {xs : List V} (h : Scr K H a xs) : SqL K H a xs := h.elim (fun h => .inl (.inr h)) .inr
theorem Scr.keep {K : PySem.W.Frag} {S : List Addr} {H H' : Hp} {a : Addr} {xs : List V} (h : Scr K H a xs) (k : Keep S H H') (n : ∀ o, H a = some o → a ∉ S) : Scr K H' a xs :=
  h.elim (fun ⟨o, e⟩ => .inl ⟨o, k _ _ (n _ e) e⟩) .inr
theorem Scr.keep0 {K : PySem.W.Frag} {H H' : Hp} {a : Addr} {xs : List V} (h : Scr K H a xs) (k : Keep [] H H') : Scr K H' a xs := h.keep k fun _ _ => nin0
/-- a new object comes and is changed -/
theorem Scr.past {K : PySem.W.Frag} {H H1 H2 : Hp} {a p : Addr} {xs : List V} (h : Scr K H a xs) (n : H p = none) (k1 : Keep [] H H1) (k2 : Keep [p] H1 H2) : Scr K H2 a xs :=
  h.elim (fun ⟨o, e⟩ => .inl ⟨o, k2 _ _ (nin1 (ne_of_none e n)) (k1 _ _ nin0 e)⟩) .inr
theorem Scr.of {K : PySem.W.Frag} {H : Hp} {a : Addr} {xs : List V} (o : Only H) (h : SqL K H a xs) : Scr K H a xs := by
  rcases h with (h | h) | h
  · rcases o a with z | ⟨ob, ys, z⟩
    · exact nomatch z.symm.trans h
    · exact nomatch z.symm.trans h
  · exact .inl h
  · exact .inr h
theorem e_ten6 : (10 : Int) ^ (6 : Int).toNat = 1000000 := by decide
theorem e_ten18 : (10 : Int) ^ (18 : Int).toNat = 1000000000000000000 := by decide
theorem e_ten60 : (10 : Int) ^ (60 : Int).toNat = 10 ^ 60 := rfl
theorem len1 {α : Type} {a : α} : [a].length ≤ sizeLine := by show 1 ≤ sizeLine; decide
theorem len_le {n : Nat} (h : n ≤ 1000000) : n ≤ sizeLine := by
  rw [sizeLine_eq]
  omega
theorem len_lt {n : Nat} (h : n ≤ 1000000) : n < sizeLine := by
  rw [sizeLine_eq]
  omega
end Wg

/-! Wagon, part 8: comprehensions, places of texts in tuples, join, split. -/
namespace Wg
open PySem PySem.Spec PyProof.Rows L2

theorem Keep.past {S : List Addr} {H H1 H2 : Hp} {d : Addr} (k1 : Keep S H H1) (k2 : Keep [d] H1 H2) (n : H d = none) : Keep S H H2 := fun b o hb e =>
  k2 b o (nin1 (ne_of_none e n)) (k1 b o hb e)

/-! ### comprehensions -/
/-- n turns: acc is what is made so far, D the new list; R: what is wanted of an element, R0: of a turn without one -/
def CLoop (S : List Addr) (n : Nat) (it : Nat → V) (g : TG) (tt : TT) (te : TE) (vs : List Nat) (σ : L2.St) (H1 : Hp) (Q : VK) : Prop :=
  ∃ P : Nat → Hp → List V → Prop, (∀ D H2, H1 D = none → Keep [] H1 H2 → P 0 H2 []) ∧
    (∀ D i H acc (R : VK) (R0 : Hp → Prop), H1 D = none → i < n → Keep S H1 H → H D = some (.lst acc) → P i H acc →
      (∀ y H4, Keep S H H4 → acc.length < sizeLine → (∀ H5, Keep [D] H4 H5 → P (i + 1) H5 (acc ++ [y])) → R y H4) → (∀ H3, Keep S H H3 → P (i + 1) H3 acc → R0 H3) →
      g (it i) (wipe σ vs) H fun σ2 H2 => wipe σ2 vs = wipe σ vs ∧ tt σ2 H2 fun b H3 => if b = true then te σ2 H3 R else R0 H3) ∧
    ∀ D H acc, H1 D = none → Keep S H1 H → H D = some (.lst acc) → P n H acc → Q (.ref D) H
/-- what a comprehension asks behind its source's value -/
def CB (J : It) (g : TG) (tt : TT) (te : TE) (vs : List Nat) (σ : L2.St) (Q : VK) (H1 : Hp) : Prop := ∀ D, H1 D = none → ∃ W : Nat → Nat → Hp → Prop, (∃ m, W 0 m (upd H1 D (.lst []))) ∧ ∀ i m H, W i m H →
  (J.stop i H ∧ Q (.ref D) H) ∨ (J.go i H ∧ ∃ Nx : Hp → Prop, (∀ H', Nx H' → ∃ m', m' < m ∧ W (i + 1) m' H') ∧ ∀ x H', J.yld i H x H' → g x (wipe σ vs) H' fun σ2 H2 => wipe σ2 vs = wipe σ vs ∧ tt σ2 H2 fun b H3 =>
    if b = true then te σ2 H3 fun y H4 => ∃ acc, H4 D = some (.lst acc) ∧ acc.length < sizeLine ∧ Nx (upd H4 D (.lst (acc ++ [y]))) else Nx H3)
def CU (K : PySem.W.Frag) (g : TG) (tt : TT) (te : TE) (vs : List Nat) (σ : L2.St) (Q : VK) (x : V) (H1 : Hp) : Prop := iU K (tC x) σ H1 fun J H1 => CB J g tt te vs σ Q H1
theorem e_lcU {K : PySem.W.Frag} {tl : TE} {g : TG} {tt : TT} {te : TE} {vs : List Nat} {σ : L2.St} {H : Hp} {Q : VK} : tLc (iU K tl) g tt te vs σ H Q ↔ tl σ H (CU K g tt te vs σ Q) := Iff.rfl
def CR1 (g : TG) (tt : TT) (te : TE) (vs : List Nat) (σ : L2.St) (Q : VK) (xs : List V) (H1 : Hp) : Prop := ∃ j : Int, xs = [.int j] ∧ -(2 ^ 62) ≤ j ∧ j < 2 ^ 62 ∧ CB (Itr 0 j.toNat) g tt te vs σ Q H1
theorem e_lcR1 {ta : TA} {g : TG} {tt : TT} {te : TE} {vs : List Nat} {σ : L2.St} {H : Hp} {Q : VK} : tLc (iRng1 ta) g tt te vs σ H Q ↔ ta σ H (CR1 g tt te vs σ Q) := Iff.rfl
/-- from CLoop: J yields it i at turn i and stops at n, as long as what was there ahead is kept -/
theorem cb_of {S : List Addr} {n : Nat} {it : Nat → V} {J : It} {g : TG} {tt : TT} {te : TE} {vs : List Nat} {σ : L2.St} {H1 : Hp} {Q : VK} (hS : ∀ b ∈ S, ∃ o, H1 b = some o)
    (hgo : ∀ i H, i < n → Keep S H1 H → J.go i H) (hy : ∀ i H x H', i < n → Keep S H1 H → J.yld i H x H' → x = it i ∧ H' = H) (hst : ∀ H, Keep S H1 H → J.stop n H)
    (h : CLoop S n it g tt te vs σ H1 Q) : CB J g tt te vs σ Q H1 := by
  intro D hD
  obtain ⟨P, p0, ps, pd⟩ := h
  have nD : D ∉ S := fun z => by
    obtain ⟨o, e⟩ := hS D z
    exact nomatch hD.symm.trans e
  refine ⟨fun i m H => m = n - i ∧ i ≤ n ∧ Keep S H1 H ∧ ∃ acc, H D = some (.lst acc) ∧ P i H acc, ⟨n, by omega, by omega, (Keep.new hD).all, [], upd_same, p0 D _ hD (Keep.new hD)⟩, ?_⟩
  rintro i m H ⟨rfl, hi, k, acc, eD, p⟩
  by_cases hlt : i < n
  · refine .inr ⟨hgo i H hlt k, fun H' => i + 1 ≤ n ∧ Keep S H1 H' ∧ ∃ acc, H' D = some (.lst acc) ∧ P (i + 1) H' acc, fun H' q => ⟨n - (i + 1), by omega, rfl, q⟩, fun x H' y => ?_⟩
    obtain ⟨ex, eh⟩ := hy i H x H' hlt k y
    rw [ex, eh]
    exact ps D i H acc _ _ hD hlt k eD p (fun y H4 k4 z q => ⟨acc, k4 _ _ nD eD, z, hlt, (k.trans k4).past Keep.set hD, _, upd_same, q _ Keep.set⟩) fun H3 k3 q => ⟨hlt, k.trans k3, acc, k3 _ _ nD eD, q⟩
  · have e : i = n := by omega
    subst e
    exact .inl ⟨hst H k, pd D H acc hD k eD p⟩
theorem g_CR1 {S : List Addr} {g : TG} {tt : TT} {te : TE} {vs : List Nat} {σ : L2.St} {H1 : Hp} {Q : VK} {j : Int} (hS : ∀ b ∈ S, ∃ o, H1 b = some o) (b1 : -(2 ^ 62) ≤ j) (b2 : j < 2 ^ 62)
    (h : CLoop S j.toNat (fun i => .int (i : Nat)) g tt te vs σ H1 Q) : CR1 g tt te vs σ Q [.int j] H1 := by
  refine ⟨j, rfl, b1, b2, cb_of hS (fun i H hi _ => hi) (fun i H x H' hi _ y => ?_) (fun H _ => Nat.le_refl _) h⟩
  obtain ⟨e1, e2⟩ := y
  exact ⟨by rw [e2, Int.zero_add], e1⟩
theorem g_CL {S : List Addr} {K : PySem.W.Frag} {g : TG} {tt : TT} {te : TE} {vs : List Nat} {σ : L2.St} {H1 : Hp} {Q : VK} {a : Addr} {xs : List V} (hS : ∀ b ∈ S, ∃ o, H1 b = some o) (hx : H1 a = some (.lst xs)) (na : a ∉ S)
    (h : CLoop S xs.length (fun i => xs.getD i .non) g tt te vs σ H1 Q) : CU K g tt te vs σ Q (.ref a) H1 := by
  refine .inl ⟨a, xs, rfl, lst_sq hx, cb_of hS (fun i H hi k => ⟨xs, xs[i], lst_sq (k _ _ na hx), List.getElem?_eq_getElem hi⟩) (fun i H x H' hi k y => ?_) (fun H k => ⟨xs, lst_sq (k _ _ na hx), Nat.le_refl _⟩) h⟩
  obtain ⟨e1, e2⟩ := y
  have := e2 xs (lst_sq (k _ _ na hx))
  exact ⟨by rw [List.getD_eq_getElem?_getD, this]; rfl, e1⟩
theorem g_CT {S : List Addr} {K : PySem.W.Frag} {g : TG} {tt : TT} {te : TE} {vs : List Nat} {σ : L2.St} {H1 : Hp} {Q : VK} {a : Addr} {xs : List V} (hS : ∀ b ∈ S, ∃ o, H1 b = some o) (hx : Tup H1 a xs) (na : a ∉ S)
    (h : CLoop S xs.length (fun i => xs.getD i .non) g tt te vs σ H1 Q) : CU K g tt te vs σ Q (.ref a) H1 := by
  refine .inr (.inl ⟨a, xs, rfl, hx.sq, cb_of hS (fun i H hi k => ⟨xs, xs[i], (hx.keep k na).sq, List.getElem?_eq_getElem hi⟩) (fun i H x H' hi k y => ?_) (fun H k => ⟨xs, (hx.keep k na).sq, Nat.le_refl _⟩) h⟩)
  obtain ⟨e1, e2⟩ := y
  have := e2 xs (hx.keep k na).sq
  exact ⟨by rw [List.getD_eq_getElem?_getD, this]; rfl, e1⟩
theorem g_CS {S : List Addr} {K : PySem.W.Frag} {g : TG} {tt : TT} {te : TE} {vs : List Nat} {σ : L2.St} {H1 : Hp} {Q : VK} {z : Str} (hS : ∀ b ∈ S, ∃ o, H1 b = some o)
    (h : CLoop S z.cps.size (fun i => .str ⟨#[z.cps.getD i 0]⟩) g tt te vs σ H1 Q) : CU K g tt te vs σ Q (.str z) H1 := by
  refine .inr (.inr ⟨z, rfl, cb_of hS (fun i H hi k => hi) (fun i H x H' hi k y => ?_) (fun H k => Nat.le_refl _) h⟩)
  obtain ⟨e1, c, e2, e3⟩ := y
  refine ⟨?_, e1⟩
  rw [e3, Array.getD_eq_getD_getElem?, e2]
  rfl

/-! ### a text's place in a tuple of texts -/
section
variable {X : Cx} {o e : Expr} {to te : TE} {apos cpos : Pos}
def tIdx (K : PySem.W.Frag) (to : TE) (t : TA) : TE := fun σ H Q => to σ H fun x H1 => ∃ (a : Addr) (ys : List Str), x = .ref a ∧ Tup H1 a (ys.map V.str) ∧ t σ H1 fun vs H2 =>
  ∃ (z : Str) (j : Nat), vs = [.str z] ∧ Tup H2 a (ys.map V.str) ∧ ys[j]? = some z ∧ (∀ m, m < j → ys[m]? ≠ some z) ∧ Q (.int (j : Nat)) H2
theorem pe_idx {t : TA} (ho : PE X o to) (ha : PA X [e] t) (hbase : attributeBase o "index" X.env (eval o X.env) = eval o X.env := by rfl)
    (hfew : ((backTo cpos (starEach [e] X.env)).all (fun x => !x.1) && (backToKw cpos (keywordEach [] X.env)).all (fun x => x.1.isSome)
      && decide (([e] : List Expr).length + ([] : List Keyword).length + (if ([] : List Keyword).isEmpty then 0 else 1) < 30)) = true := by rfl)
    (hline : (apos.endLine == cpos.line) = true := by rfl) (hs : starEach [e] X.env = (false, eval e X.env) :: starEach [] X.env := by rfl) (hplain : (backTo cpos (starEach [] X.env)).any (·.1) = false := by rfl) :
    PE X (.Call (.Attribute o "index" apos) [e] [] cpos) (tIdx X.K to t) := by
  constructor
  intro pins s σ H Q I h
  have run := ho.run pins s σ H _ I h
  refine wpAny_Call_method_late hbase hfew hline rfl (thn run fun v s1 w => ?_)
  obtain ⟨x, H1, I1, r1, a, ys, rfl, tu, q1⟩ := w
  cases r1
  obtain ⟨its, n, rv, z, hob⟩ := tu.obj I1
  refine ⟨"tuple", "tuple.index", PySem.F.plainAttrs_tuple, PySem.F.slot_tuple_index, PySem.F.type_tuple_index, ⟨_, hob, rfl⟩, fun b e => ?_, ?_⟩
  · cases e
    exact ⟨_, hob, rfl⟩
  have args := ha.run cpos pins s1 σ H1 _ I1 q1
  rw [hs] at args ⊢
  refine Calls.callWith_builtin (by show (false || (backTo cpos (starEach [] X.env)).any (·.1)) = false; rw [hplain] <;> rfl) (Calls.evalArgs_plain ?_)
  refine thn args fun us s2 y => ?_
  obtain ⟨vs, H2, I2, r2, zz, j, rfl, t2, ej, em, q2⟩ := y
  exact mt_tup_index pins s2 σ H2 (.ref a) [.str zz] (.ref a) us Q I2 rfl r2 ⟨a, ys, zz, j, rfl, rfl, t2.sq, ej, em, q2⟩
end

/-! ### texts -/
section
variable {X : Cx} {o e : Expr} {to te : TE} {apos pos : Pos}
def uJoin (K : PySem.W.Frag) : V → List V → Hp → VK → Prop := fun x xs H Q => ∃ a p, ∃ ys : List Str, x = .str a ∧ xs = [.ref p] ∧ (SqL K H p (ys.map V.str) ∨ SqT K H p (ys.map V.str)) ∧ (ys.map (·.length)).sum + ys.length * a.length ≤ 16777216 ∧ Q (.str (Txt.join a ys)) H
theorem pe_uJoin (ho : PE X o to) (he : PE X e te) (hs : starEach [e] X.env = [(false, eval e X.env)] := by rfl) (hbase : attributeBase o "join" X.env (eval o X.env) = eval o X.env := by rfl) (hline : (apos.endLine == pos.line) = true := by rfl) :
    PE X (.Call (.Attribute o "join" apos) [e] [] pos) (tM1 (uJoin X.K) to te) := pe_join ho he hs hbase hline
def uSplit : V → List V → Hp → VK → Prop := fun x xs H Q => ∃ a b, x = .str a ∧ xs = [.str b] ∧ (b.length == 0) = false ∧ a.length + 2 ≤ sizeLine ∧ Mk H (.lst ((Txt.split a b).map V.str)) Q
theorem mt_uSplit : MtR X "str.split" uSplit := by
  intro pins s σ H x xs v us Q I rx rs h
  obtain ⟨a, b, e1, e2, h1, h2, q⟩ := h
  exact mt_split pins s σ H x xs v us Q I rx rs ⟨a, b, e1, e2, h1, h2, fun p n => q.at p n⟩
theorem pe_uSplit (ho : PE X o to) (he : PE X e te) (hs : starEach [e] X.env = [(false, eval e X.env)] := by rfl) (hbase : attributeBase o "split" X.env (eval o X.env) = eval o X.env := by rfl) (hline : (apos.endLine == pos.line) = true := by rfl) :
    PE X (.Call (.Attribute o "split" apos) [e] [] pos) (tM1 uSplit to te) := pe_m1 PySem.F.slot_str_split PySem.F.type_str_split mt_uSplit ho he hs hbase hline
end
end Wg

/-! Wagon, part 9: list(reversed(list)). -/
namespace Wg
open PySem PySem.Spec PyProof.Rows L2
section
variable {prog : Program} {w : World} {A : Around} {E : Value → Shared → Prop} {s : Shared}
/-- what a new list takes out of a list walked from behind -/
theorem takes_back {it l S : Addr} {items : Array Value} {R : Result → Shared → Prop} (hh : A.handled = none) (hit : s.heap.IsRevIter it l ((items.size : Int) - 1)) (hl : s.heap.IsList l items) (hne : l ≠ it) (hn : items.size ≤ sizeLine)
    (hSi : S ≠ it) (hSl : S ≠ l) (hS : s.heap.get? S = some { cls := .type "list", data := .seq #[] })
    (hR : ∀ (h' : Heap) (tk : Nat) (acc : Array Value) (c' : Nat), (∀ b o, b ≠ S → b ≠ it → s.heap.get? b = some o → h'.get? b = some o) → h'.get? S = some { cls := .type "list", dict := none, data := .seq acc c', slots := #[] } →
      ItemsOf (fun i v => items[items.size - 1 - i]? = some v) acc items.size → R (.ok (.ret .none)) { s with heap := h', toks := tk }) :
    wpAny (model prog w) A.in1 (Builtin.«list.__init__» ⟨[.ref S, .ref it], []⟩)
      (fun fin s' => match fin with | .done f => R (.ok f) s' | .again c' => c'.quiet = true ∧ codeAny (model prog w) A c' R s') (fun e s' => R (.error e) s') s := by
  have W := (Walks.listRev (prog := prog) (w := w) (A := A.in1) hh it l hne items).toS
  have hSf : S ∉ [it, l] := by simp only [List.mem_cons, List.not_mem_nil, or_false, not_or]; exact ⟨hSi, hSl⟩
  show wpAny _ A.in1 (do let old ← Builtin.List.listItems (.ref S); Builtin.List.listUpdate (.ref S) (fun _ => #[]); letGo old.toList.reverse; Builtin.List.listExtendWith (.ref S) (.ref it) .none) _ _ s
  refine wpAny_bind ?_
  unfold Builtin.List.listItems
  refine wpAny_bind (wpAny_seqItems hS rfl (wpAny_pure ?_))
  show wpAny _ A.in1 (updateSeq S (fun _ => #[]) >>= fun _ => letGo (#[] : Array Value).toList.reverse >>= fun _ => Builtin.List.listExtendWith (.ref S) (.ref it) .none) _ _ s
  refine wpAny_bind (wpAny_updateSeq hS rfl ?_)
  have hS₂ := Heap.get?_update_self (Obj.mapSeq (fun _ => (#[] : Array Value))) hS rfl
  have oth₂ : ∀ b o, b ≠ S → s.heap.get? b = some o → (s.heap.update S (Obj.mapSeq (fun _ => (#[] : Array Value)))).get? b = some o := fun b o hb e => (Heap.get?_update_other _ _ (Ne.symm hb)).trans e
  refine wpAny_bind (wpAny_letGo ?_)
  have hit2 := hit.at (h' := s.heap.update S (Obj.mapSeq (fun _ => (#[] : Array Value)))) fun o e => oth₂ it o (Ne.symm hSi) e
  have hl2 : (s.heap.update S (Obj.mapSeq (fun _ => (#[] : Array Value)))).IsList l items := hl.at fun o e => oth₂ l o (Ne.symm hSl) e
  have hT : ({ s with heap := s.heap.update S (Obj.mapSeq (fun _ => (#[] : Array Value))) } : Shared).TypeIs (.ref it) "list_reverseiterator" := Heap.IsRevIter.typeIs (s := { s with heap := s.heap.update S (Obj.mapSeq (fun _ => (#[] : Array Value))) }) hit2
  have h1 : Builtin.List.listSameRef (.ref S) (.ref it) = false := by simp [Builtin.List.listSameRef, hSi]
  unfold Builtin.List.listExtendWith
  refine wpAny_bind (wpAny_typeOf hT ?_)
  rw [if_neg (by rw [h1]; decide)]
  refine wpAny_bind (wpAny_pyIter_revIter (s := { s with heap := s.heap.update S (Obj.mapSeq (fun _ => (#[] : Array Value))) }) hit2 ?_)
  refine wpAny_bind (wpAny_holding ?_)
  unfold Builtin.List.listLengthHint
  refine wpAny_bind (wpAny_specialOf hT RT.nolen_lri ?_)
  show wpAny _ A.in1 (specialOf (Value.ref it) (Str.ofString "__length_hint__") >>= _) _ _ _
  refine wpAny_bind (wpAny_specialOf hT RT.hint_lri ?_)
  generalize hid : ("list_reverseiterator.__length_hint__" : String) = id0
  wp_delta
  rw [show splitId id0 = some ("list_reverseiterator", "__length_hint__") from by subst hid; decide +kernel]
  subst hid
  refine wpAny_bind (wpAny_isInstance (b := true) hT (by rw [isSubtype_type]; kernel_rfl) ?_)
  refine wpAny_pure ?_
  rw [if_neg (by decide)]
  have e0 : ((items.size : Nat) : Int) - 1 - ((0 : Nat) : Int) = (items.size : Int) - 1 := by omega
  refine wpAny_pure ⟨plainId_quiet F.plain_extend_loop _, codeAny_extend_loopS W hn _ hSf _ items.size 0 _ _ _ rfl (Nat.zero_le _) ⟨Nat.zero_le _, by rw [e0]; exact hit2, hl2⟩ hS₂ (ItemsOf.nil _) fun s' acc' c' hm hS' hacc => ?_⟩
  rw [Moved.eq_with hm]
  refine hR s'.heap s'.toks acc' c' (fun b o h1 h2 e => hm.heap b o (fun hmem => ?_) (oth₂ b o h1 e)) hS' hacc
  rcases List.mem_cons.mp hmem with e' | hmem
  · exact h1 e'
  · exact h2 (List.mem_singleton.mp hmem)
theorem call_list_back {it l : Addr} {items : Array Value} {Q : Value → Shared → Prop} (hh : A.handled = none) (hit : s.heap.IsRevIter it l ((items.size : Int) - 1)) (hl : s.heap.IsList l items) (hne : l ≠ it) (hn : items.size ≤ sizeLine)
    (hQ : ∀ (h' : Heap) (tk : Nat) (acc : Array Value) (c' : Nat), (∀ b o, b ≠ it → s.heap.get? b = some o → h'.get? b = some o) → h'.get? s.heap.objs.size = some { cls := .type "list", dict := none, data := .seq acc c', slots := #[] } →
      ItemsOf (fun i v => items[items.size - 1 - i]? = some v) acc items.size → Q (.ref s.heap.objs.size) { s with heap := h', toks := tk }) :
    wpAny (model prog w) A (call (.type "list") [.ref it]) Q E s := by
  obtain ⟨oi, hoi, _⟩ := id hit
  obtain ⟨ol, hol, _⟩ := id hl
  have hSi : s.heap.objs.size ≠ it := Nat.ne_of_gt (Heap.lt_size hoi)
  have hSl : s.heap.objs.size ≠ l := Nat.ne_of_gt (Heap.lt_size hol)
  refine callType_codes (Q₁ := fun obj s₁ => obj = .ref s.heap.objs.size ∧ s₁ = { s with heap := s.heap.push { cls := .type "list", data := .seq #[] } }) F.called_list (F.typeCall_list_1 _) F.entry_list_init
    (code_list_new _ ⟨rfl, rfl⟩) fun obj s₁ h₁ => ?_
  obtain ⟨rfl, rfl⟩ := h₁
  have hS : (s.heap.push { cls := .type "list", data := .seq #[] }).get? s.heap.objs.size = some { cls := .type "list", data := .seq #[] } := Heap.get?_push_size _ rfl
  refine ⟨⟨_, hS, rfl⟩, F.args_list_init_2 _ _, takes_back (s := { s with heap := s.heap.push { cls := .type "list", data := .seq #[] } }) (A := A.in1) hh (hit.at fun o e => Heap.get?_push_of_some _ e) (hl.push _) hne hn hSi hSl hS fun h' tk acc c' hk hS' hacc => ?_⟩
  refine ⟨rfl, hQ h' tk acc c' (fun b o hb e => hk b o (fun e' => absurd (Heap.lt_size e) (by rw [e']; exact Nat.lt_irrefl _)) hb (Heap.get?_push_of_some _ e)) hS' hacc⟩
end
def uLRev (K : PySem.W.Frag) (te : TE) : TE := fun σ H Q => te σ H fun x H1 => ∃ p ys, x = .ref p ∧ SqL K H1 p ys ∧ Mk H1 (.lst ys.reverse) Q
section
variable {X : Cx}
theorem pe_uLRev {e : Expr} {te : TE} {p p2 pos pos2 : Pos} (hc : X.calm = true) (hg : Gl X "list") (hm : X.mg "list" = none) (hg2 : Gl X "reversed") (hm2 : X.mg "reversed" = none) (he : PE X e te)
    (hs : starEach [e] X.env = (false, eval e X.env) :: starEach [] X.env := by rfl)
    (hs2 : starEach [.Call (.Name "reversed" p2) [e] [] pos2] X.env = (false, eval (.Call (.Name "reversed" p2) [e] [] pos2) X.env) :: starEach [] X.env := by rfl) :
    PE X (.Call (.Name "list" p) [.Call (.Name "reversed" p2) [e] [] pos2] [] pos) (uLRev X.K te) := by
  refine ⟨fun pins s σ H Q I h => ?_⟩
  refine Call_ (ld_blt I hg hm boot_list (PyProof.Rows.callWith_type1 (args_cons (Call_ (ld_blt I hg2 hm2 PyProof.Rows.boot_reversed (PyProof.Rows.callWith_type1 (args_cons (thn (he.run pins s σ H _ I h) fun u s1 ⟨v, H1, I1, r1, q1⟩ => args_nil ?_) hs) hs rfl))) hs2) hs2 rfl))
  obtain ⟨a, xs, ev, hq, q⟩ := q1
  subst ev
  obtain rfl : u = Value.ref a := r1
  obtain ⟨its, rv, p', hz⟩ := I1.list hq
  refine call_reversed_list p'.isList (args_nil ?_)
  have hl := p'.isList
  obtain ⟨ol, hol, _⟩ := id hl
  have hne : a ≠ s1.heap.objs.size := Nat.ne_of_lt (Heap.lt_size hol)
  have hn : its.toArray.size ≤ sizeLine := by rw [List.size_toArray, ← rv.length]; exact hz
  have hsz : (s1.heap.push (revObj a ((its.toArray.size : Int) - 1))).objs.size = s1.heap.objs.size + 1 := by simp [Heap.push]
  refine call_list_back (s := { s1 with heap := s1.heap.push (revObj a ((its.toArray.size : Int) - 1)) }) (I1.ok.hd hc) ⟨_, Heap.get?_push_size _ rfl, rfl, rfl⟩ (hl.push _) hne hn fun h' tk acc c' hk hS hi => ?_
  have k0 : ∀ b o, s1.heap.get? b = some o → h'.get? b = some o := fun b o e => hk b o (Nat.ne_of_lt (Heap.lt_size e)) (Heap.get?_push_of_some _ e)
  have le : s1.heap.objs.size ≤ (s1.heap.push (revObj a ((its.toArray.size : Int) - 1))).objs.size := by rw [hsz]; exact Nat.le_succ _
  refine ⟨.ref _, upd H1 _ (.lst xs.reverse), I1.laid (t' := tk) k0 le (show ObjOk X.prog X.w _ h' _ (.lst xs.reverse) from ⟨by rw [List.length_reverse]; exact hz, acc.toList, c', RT.vals_rev rv hi, ?_⟩), rfl, q.at _ (I1.hok.fresh le)⟩
  rw [Array.toArray_toList]
  exact hS
end
theorem g_lrev {K : PySem.W.Frag} {p : Addr} {ys : List V} {H : Hp} {Q : VK} (h : SqL K H p ys) (q : ∀ l H', H l = none → Keep [] H H' → H' l = some (.lst ys.reverse) → Q (.ref l) H') : ∃ p' ys', V.ref p = .ref p' ∧ SqL K H p' ys' ∧ Mk H (.lst ys'.reverse) Q := ⟨p, ys, rfl, h, q⟩
end Wg

/-! Wagon, part 10: {i: j}. -/
namespace Wg
open PySem PySem.Spec PyProof.Rows L2
section
variable {X : Cx} {pos : Pos}
def tDicI (i j : Int) : TE := fun _ H Q => Mk H (.dK [(.inl i, .int j)]) Q
theorem pe_dicI {k v : Expr} {i j : Int} (hk : PE X k (tC (.int i))) (hv : PE X v (tC (.int j))) : PE X (.Dict [some k] [v] pos) (tDicI i j) := by
  constructor
  intro pins s σ H Q I q
  refine (pe_disp (pps_cons hk hv pps_nil) rfl rfl (by simp) (by simp)).run pins s σ H Q I fun p n => ?_
  refine ⟨upd_same, [(.inl i, .int j)], rfl, by simp, ?_⟩
  rw [upd_upd]
  exact q.at p n
end
end Wg

/-! Wagon, part 11: enumerate(tuple), min of a list. -/
namespace Wg
open PySem PySem.Spec PyProof.Rows L2
theorem en_new (l : Addr) (items : Array Value) (n : Nat) (dct : Option Addr) (sl : Array (Option Value)) :
    Meets (Builtin.«enumerate.__new__» ⟨[.type "enumerate", .ref l], []⟩) (fun _ R s => s.heap.get? l = some { cls := .type "tuple", dict := dct, data := .seq items n, slots := sl } ∧
      R (.ok (.ret (.ref (s.heap.push { cls := .type "tuple_iterator", data := .fields #[.ref l, .int 0 0] }).objs.size)))
        { s with heap := (s.heap.push { cls := .type "tuple_iterator", data := .fields #[.ref l, .int 0 0] }).push { cls := .type "enumerate", data := .fields #[.none, .bool false, .ref s.heap.objs.size, rawInt 0, .none, .none] } }) :=
  .of_wp fun prog w A R s h => by
    obtain ⟨hp, g, d, tk, os⟩ := s
    obtain ⟨hl, h⟩ := h
    have hsub := sub_enumerate
    have hL : Heap.IsTuple (Shared.heap ⟨hp, g, d, tk, os⟩) l items := ⟨_, hl, rfl, n, rfl⟩
    wp_walk using AutoSeq1.wpAny_loadPart' hl
    refine wpAny_stack_any fun st => wpAny_pure ?_
    split
    · rename_i c _ _ _ _ _
      cases (c == Value.type "enumerate")
      · wp_walk using AutoSeq1.wpAny_loadPart' hl, wpAny_pyIter_tuple hL
        exact ⟨_, rfl, h⟩
      · wp_walk using AutoSeq1.wpAny_loadPart' hl, wpAny_pyIter_tuple hL
        exact ⟨_, rfl, h⟩
    · wp_walk using AutoSeq1.wpAny_loadPart' hl, wpAny_pyIter_tuple hL
      exact ⟨_, rfl, h⟩
section
variable {prog : Program} {w : World} {A : Around} {E : Value → Shared → Prop} {s : Shared}
theorem call_en {l : Addr} {items : Array Value} {Q : Value → Shared → Prop} (hL : s.heap.IsTuple l items)
    (h : ∀ h', IsEnum h' (s.heap.objs.size + 1) s.heap.objs.size 0 .none → h'.IsTupleIter s.heap.objs.size l 0 → h'.objs.size = s.heap.objs.size + 2 →
      (∀ b o, s.heap.get? b = some o → h'.get? b = some o) → Q (.ref (s.heap.objs.size + 1)) { s with heap := h' }) :
    wpAny (model prog w) A (call (.type "enumerate") [.ref l]) Q E s := by
  obtain ⟨⟨c, dct, dt, sl⟩, hl, hc, n, hd⟩ := hL
  replace hc : c = .type "tuple" := hc
  replace hd : dt = .seq items n := hd
  subst hc hd
  refine callType_new F.called_enumerate (by decide) (F.typeCall_enumerate_1 _) (F.newCall_enumerate_1 _) (fun obj => F.args_object_init_2 obj _) F.entry_enumerate_new
    (en_new l items n dct sl) ⟨hl, ?_⟩
  have hz : (s.heap.push { cls := .type "tuple_iterator", data := .fields #[.ref l, .int 0 0] }).objs.size = s.heap.objs.size + 1 := Heap.size_push ..
  show _ ∧ _
  rw [hz]
  have he : IsEnum ((s.heap.push { cls := .type "tuple_iterator", data := .fields #[.ref l, .int 0 0] }).push
      { cls := .type "enumerate", data := .fields #[.none, .bool false, .ref s.heap.objs.size, rawInt 0, .none, .none] }) (s.heap.objs.size + 1) s.heap.objs.size 0 .none := by
    have := Heap.get?_push_size (s.heap.push { cls := .type "tuple_iterator", data := .fields #[.ref l, .int 0 0] })
      (o := { cls := .type "enumerate", data := .fields #[.none, .bool false, .ref s.heap.objs.size, rawInt 0, .none, .none] }) rfl
    rw [hz] at this
    exact this
  exact ⟨⟨_, he, rfl⟩, h _ he ⟨_, Heap.get?_push_of_some _ (Heap.get?_push_size _ rfl), rfl, rfl⟩ (by rw [Heap.size_push, hz]) fun b o x => Heap.get?_push_of_some _ (Heap.get?_push_of_some _ x)⟩
end
/-- a tuple's items in new pairs -/
def Itn (a : Addr) (xs : List V) : It :=
  ⟨fun i H => i < xs.length ∧ Tup H a xs, fun i H v H' => ∃ T x, v = .ref T ∧ H T = none ∧ H' = upd H T (.tup [.int (i : Nat), x]) ∧ xs[i]? = some x, fun i H => i = xs.length ∧ Tup H a xs⟩
theorem turn_en {P : Program} {w : World} {K : PySem.W.Frag} {elts : List Expr} {kk : Nat} {tpos : Pos} (a e it : Addr) (xs : List V) :
    Turn P w K (.Tuple elts kk tpos) (Itn a xs) [e, it] e (fun i h => (∃ old, IsEnum h e it ((i : Nat) : Int) old) ∧ h.IsTupleIter it a i ∧ e ≠ it ∧ a ≠ it ∧ a ≠ e) where
  mem := by simp
  obj := fun i h st b hb => by
    obtain ⟨⟨old, he⟩, ⟨o, ho, hc, hd⟩, _⟩ := st
    have e' : b = e ∨ b = it := by simpa using hb
    rcases e' with z | z
    · rw [z]; exact ⟨_, he, fun v q => nomatch q⟩
    · rw [z]; exact ⟨o, ho, fun v q => by rw [hd] at q; cases q⟩
  keep := fun i h h' st k => let ⟨⟨old, he⟩, hi, hne⟩ := st; ⟨⟨old, k e (by simp) _ he⟩, hi.at fun o q => k it (by simp) o q, hne⟩
  item := by
    intro X hP hw hK hc i pins s σ H E I hf st hg
    subst hP hw hK
    obtain ⟨⟨old, he⟩, hit, hne, hai, hae⟩ := st
    obtain ⟨hin, tu⟩ := hg
    obtain ⟨its, rv, p, hz⟩ := I.tuple (tu.sq (K := X.K))
    have hl := rv.length
    have hel : e < s.heap.objs.size := Heap.lt_size he
    have hil : it < s.heap.objs.size := by obtain ⟨_, q, _⟩ := hit; exact Heap.lt_size q
    have D := Draws.tuple (prog := X.prog) (w := X.w) (A := X.A.in1) (I.ok.hd hc) it a hai its.toArray
    have hta : s.heap.IsTuple a its.toArray := p
    refine wpAny_pyNext_enum_itemD D he ⟨hit, hta⟩ (by simp; omega) hne (by simp [hne, Ne.symm hae]) fun x h' tk hP ho hs' hT hsz hk => ?_
    obtain ⟨hit', _⟩ := hs'
    refine ⟨_, rfl, wpAny_letOwnedTupleGo_enum (s := { s with heap := h', toks := tk + 1 }) ho fun h'' he' sb => ?_⟩
    have hT2 : h''.get? s.heap.objs.size = some { cls := .type "tuple", data := .seq #[.int i tk, x] } := (sb.2 _ (Nat.ne_of_gt hel)).trans hT
    have hxi : its[i]? = some x := by simpa using hP
    obtain ⟨u, hu, ru⟩ : ∃ u, xs[i]? = some u ∧ RelV u x := by
      obtain ⟨x', h1, h2⟩ := rv.get (List.getElem?_eq_getElem hin)
      rw [hxi] at h1
      cases h1
      exact ⟨_, List.getElem?_eq_getElem hin, h2⟩
    have new : ObjOk X.prog X.w (upd H s.heap.objs.size (.tup [.int (i : Nat), u])) h'' s.heap.objs.size (.tup [.int (i : Nat), u]) :=
      ⟨by show 2 ≤ sizeLine; decide, [.int i tk, x], .cons ⟨_, rfl⟩ (.cons ru .nil), ⟨_, hT2, rfl, _, rfl⟩⟩
    have I1 : Inv X pins σ (upd H s.heap.objs.size (.tup [.int (i : Nat), u])) { s with heap := h'', toks := tk + 1 } :=
      I.turnedNew (ch := [e, it]) (fun b ob hb q => (sb.2 b (fun z => hb (by simp [z]))).trans (hk b ob (fun z => hb (by simp [z])) (fun z => hb (by simp [z])) q)) hf (Nat.le_refl _) new
    refine ⟨.ref s.heap.objs.size, _, I1, rfl, ⟨_, u, rfl, I.hok.fresh (Nat.le_refl _), rfl, hu⟩, ⟨⟨x, ?_⟩, hit'.at fun o q => (sb.2 it (Ne.symm hne)).trans q, hne, hai, hae⟩, fun b hb => ?_⟩
    · have e1 : ((i + 1 : Nat) : Int) = (i : Int) + 1 := by omega
      rw [e1]
      exact he'
    · have hb' : b < s.heap.objs.size := by
        have e' : b = e ∨ b = it := by simpa using hb
        rcases e' with z | z
        · rw [z]; exact hel
        · rw [z]; exact hil
      rw [upd_ne (Nat.ne_of_lt hb')]
      exact (hf b hb).1
  done := by
    intro X hP hw hK hc i pins s σ H E I hf st hg
    subst hP hw hK
    obtain ⟨⟨old, he⟩, hit, hne, hai, hae⟩ := st
    obtain ⟨hin, tu⟩ := hg
    obtain ⟨its, rv, p, hz⟩ := I.tuple (tu.sq (K := X.K))
    have hl := rv.length
    have hta : s.heap.IsTuple a its.toArray := p
    obtain ⟨f0, f1, f2, f3, f4, f5⟩ := hf it (by simp)
    have D := Draws.tuple (prog := X.prog) (w := X.w) (A := X.A.in1) (I.ok.hd hc) it a hai its.toArray
    have hn : its.toArray.size = i := by simp; omega
    exact wpAny_pyNext_enum_endD D he (by rw [hn]; exact ⟨hit, hta⟩) fun h' eb => ⟨rfl, I.turned (t' := s.toks) (fun b o hb q => eb b o hb q) f0 f1 f3 f4 f5⟩
  self := fun A i s Q E st h => let ⟨⟨_, he⟩, _⟩ := st; wpAny_pyIter_enum he h
def iEnumU (K : PySem.W.Frag) (ta : TA) : TI := fun σ H R => ta σ H fun vs H1 => ∃ a xs, vs = [.ref a] ∧ Tup H1 a xs ∧ R (Itn a xs) H1
theorem pi_enumU {X : Cx} {e : Expr} {ta : TA} {p pos tpos : Pos} {elts : List Expr} {kk : Nat} (hg : Gl X "enumerate") (hm : X.mg "enumerate" = none) (ha : PA X [e] ta) (hs : starEach [e] X.env = [(false, eval e X.env)] := by rfl) :
    PI X (.Tuple elts kk tpos) (.Call (.Name "enumerate" p) [e] [] pos) (iEnumU X.K ta) := by
  refine ⟨fun pins s σ H R I h => ?_⟩
  refine Call_ (ld_blt I hg hm boot_enumerate (PyProof.Rows.callWith_type1 (thn (ha.run pos pins s σ H _ I h) fun us s1 ⟨vs, H1, I1, r1, q1⟩ => ?_) hs rfl))
  obtain ⟨a, xs, ex, tu, q⟩ := q1
  subst ex
  cases r1 with
  | cons r rr =>
    cases rr
    cases r
    obtain ⟨its, rv, p', hz⟩ := I1.tuple (tu.sq (K := X.K))
    have hta : s1.heap.IsTuple a its.toArray := p'
    have hal : a < s1.heap.objs.size := by obtain ⟨_, q, _⟩ := hta; exact Heap.lt_size q
    refine call_en hta fun h' he hit hsz hk => wpAny_pyIter_enum he ?_
    have I2 : Inv X pins σ H1 { s1 with heap := h' } := I1.kept (t' := s1.toks) hk
    refine ⟨s1.heap.objs.size + 1, [s1.heap.objs.size + 1, s1.heap.objs.size], _, _, H1, rfl, I2, turn_en a (s1.heap.objs.size + 1) s1.heap.objs.size xs, ⟨⟨.none, he⟩, hit, Nat.succ_ne_self _, Nat.ne_of_lt hal, Nat.ne_of_lt (Nat.lt_succ_of_lt hal)⟩, fun b hb => ?_, q⟩
    have e' : b = s1.heap.objs.size + 1 ∨ b = s1.heap.objs.size := by simpa using hb
    have hle : s1.heap.objs.size ≤ b := by
      rcases e' with z | z
      · rw [z]; exact Nat.le_add_right _ _
      · rw [z]; exact Nat.le_refl _
    exact I1.fpOk hle (I1.hok.fresh hle)
/-- a for over enumerate(tuple), behind its argument -/
def FE (g : TG) (tb : TS) (D : Ends) (σ : L2.St) (vs : List V) (H1 : Hp) : Prop := ∃ a xs, vs = [.ref a] ∧ Tup H1 a xs ∧ ∃ W : Nat → Nat → L2.St → Hp → Prop, (∃ m, W 0 m σ H1) ∧ ∀ i m σ H, W i m σ H →
  ((Itn a xs).stop i H ∧ D.nx σ H) ∨ ((Itn a xs).go i H ∧ ∃ N : L2.St → Hp → Prop, (∀ σ' H', N σ' H' → ∃ m', m' < m ∧ W (i + 1) m' σ' H') ∧ ∀ x H', (Itn a xs).yld i H x H' → g x σ H' fun σ2 H2 => tb { D with nx := N, ct := N, bk := D.nx } σ2 H2)
theorem e_forE {K : PySem.W.Frag} {ta : TA} {g : TG} {tb : TS} {D : Ends} {σ : L2.St} {H : Hp} : tFor (iEnumU K ta) g tb D σ H ↔ ta σ H (FE g tb D σ) := Iff.rfl
theorem g_FE {g : TG} {tb : TS} {D : Ends} {σ : L2.St} {H1 : Hp} {a : Addr} {xs : List V} (Pv : Nat → L2.St → Hp → Prop) (h : Tup H1 a xs) (h0 : Pv 0 σ H1) (hl : ∀ i σ H, i ≤ xs.length → Pv i σ H → Tup H a xs)
    (hs : ∀ i x σ H T H', xs[i]? = some x → Pv i σ H → H T = none → Keep [] H H' → H' T = some (.tup [.int (i : Nat), x]) → g (.ref T) σ H' fun σ2 H2 => tb { D with nx := Pv (i + 1), ct := Pv (i + 1), bk := D.nx } σ2 H2) (hd : ∀ σ H, Pv xs.length σ H → D.nx σ H) : FE g tb D σ [.ref a] H1 := by
  refine ⟨a, xs, rfl, h, fun i m σ H => m = xs.length - i ∧ i ≤ xs.length ∧ Pv i σ H, ⟨xs.length, by simp, Nat.zero_le _, h0⟩, ?_⟩
  rintro i m σ H ⟨rfl, hi, p⟩
  have tu := hl i σ H hi p
  by_cases hlt : i < xs.length
  · refine .inr ⟨⟨hlt, tu⟩, Pv (i + 1), fun σ' H' p' => ⟨xs.length - (i + 1), by omega, rfl, hlt, p'⟩, fun x H' y => ?_⟩
    obtain ⟨T, u, rfl, nT, rfl, hu⟩ := y
    exact hs i u σ H T _ hu p nT (Keep.new nT) upd_same
  · have e : i = xs.length := by omega
    subst e
    exact .inl ⟨⟨rfl, tu⟩, hd σ H p⟩
theorem g_pair {K : PySem.W.Frag} {p : Addr} {xs : List V} {n : Nat} {t : TGs} {σ : L2.St} {H : Hp} {Q : L2.St → Hp → Prop} (h : H p = some (.tup xs)) (l : xs.length = n) (q : t xs σ H Q) : gTup K n t (.ref p) σ H Q := ⟨p, xs, rfl, .inl (.inl h), l, q⟩
/-- l[::-1] -/
theorem g_revl {K : PySem.W.Frag} {p : Addr} {ys : List V} {H : Hp} {Q : VK} (h : SqL K H p ys) (q : ∀ l H', H l = none → Keep [] H H' → H' l = some (.lst ys.reverse) → Q (.ref l) H') : ∃ a xs, V.ref p = .ref a ∧ SqL K H a xs ∧ ∀ l, H l = none → Q (.ref l) (upd H l (.lst xs.reverse)) :=
  ⟨p, ys, rfl, h, fun l n => q l _ n (Keep.new n) upd_same⟩
/-- min(list of numbers) -/
theorem g_min {K : PySem.W.Frag} {a : Addr} {ns : List Int} {H : Hp} {Q : VK} (h : H a = some (.lst (ns.map V.int))) (l : 0 < ns.length) (q : ∀ m, m ∈ ns → (∀ y, y ∈ ns → m ≤ y) → Q (.int m) H) : rMin K [.ref a] H Q := ⟨a, ns, rfl, lst_sq h, l, q⟩
end Wg

/-! Wagon, part 12: pop, reverse, extend, zip of two tuples in a comprehension. -/
namespace Wg
open PySem PySem.Spec PyProof.Rows L2 RZ
section
variable {X : Cx}
def uPopAt : V → List V → Hp → VK → Prop := fun x vs H Q => ∃ l xs i k y, x = .ref l ∧ vs = [.int i] ∧ H l = some (.lst xs) ∧ -(2 ^ 63) ≤ i ∧ i < 2 ^ 63 ∧ seqIndex? i xs.length = some k ∧ xs[k]? = some y ∧ Ch H l (.lst (xs.eraseIdx k)) (Q y)
theorem mt_uPopAt : MtM X "list.pop" uPopAt := by
  intro pins s σ H x vs v us Q I rx rv h
  obtain ⟨l, xs, i, k, y, e1, e2, e3, e4, e5, e6, e7, q⟩ := h
  exact mt_popAt pins s σ H x vs v us Q I rx rv ⟨l, xs, i, k, y, e1, e2, e3, e4, e5, e6, e7, q.at⟩
def uReverse : V → List V → Hp → VK → Prop := fun x vs H Q => ∃ l xs, x = .ref l ∧ vs = [] ∧ H l = some (.lst xs) ∧ Ch H l (.lst xs.reverse) (Q .non)
theorem mt_uReverse : MtM X "list.reverse" uReverse := by
  intro pins s σ H x vs v us Q I rx rv h
  obtain ⟨l, xs, e1, e2, e3, q⟩ := h
  exact mt_reverse pins s σ H x vs v us Q I rx rv ⟨l, xs, e1, e2, e3, q.at⟩
def uExtend : V → List V → Hp → VK → Prop := fun x vs H Q => ∃ l b xs zs, x = .ref l ∧ vs = [.ref b] ∧ H l = some (.lst xs) ∧ H b = some (.lst zs) ∧ xs.length + zs.length ≤ sizeLine ∧ Ch H l (.lst (xs ++ zs)) (Q .non)
theorem mt_uExtend : MtM X "list.extend" uExtend := by
  intro pins s σ H x vs v us Q I rx rv h
  obtain ⟨l, b, xs, zs, e1, e2, e3, e4, e5, q⟩ := h
  exact mt_extend pins s σ H x vs v us Q I rx rv ⟨l, b, xs, zs, e1, e2, e3, e4, e5, q.at⟩
end
theorem g_popAt {l : Addr} {xs : List V} {i : Int} {k : Nat} {y : V} {H : Hp} {Q : VK} (h : H l = some (.lst xs)) (e : i = (k : Int)) (hk : k < xs.length) (hb : xs.length ≤ 1000) (hy : xs[k]? = some y) (q : ∀ H', Keep [l] H H' → H' l = some (.lst (xs.eraseIdx k)) → Q y H') : uPopAt (.ref l) [.int i] H Q := by
  refine ⟨l, xs, i, k, y, rfl, rfl, h, by omega, by omega, ?_, hy, q⟩
  subst e
  unfold seqIndex?
  have h0 : ¬ ((k : Int) < 0) := by omega
  simp only [h0, if_false]
  rw [if_pos (by simp; omega), Int.toNat_natCast]
theorem g_reverse {l : Addr} {xs : List V} {H : Hp} {Q : VK} (h : H l = some (.lst xs)) (q : ∀ H', Keep [l] H H' → H' l = some (.lst xs.reverse) → Q .non H') : uReverse (.ref l) [] H Q := ⟨l, xs, rfl, rfl, h, q⟩
/-- a comprehension over zip of two tuples, behind its arguments -/
def CZ (K : PySem.W.Frag) (g : TG) (tt : TT) (te : TE) (vs : List Nat) (σ : L2.St) (Q : VK) (xs : List V) (H1 : Hp) : Prop := ∃ a b us ws, xs = [.ref a, .ref b] ∧ ((SqL K H1 a us ∧ SqL K H1 b ws ∧ CB (Itz K a b) g tt te vs σ Q H1) ∨ (SqT K H1 a us ∧ SqT K H1 b ws ∧ CB (ItzT K a b) g tt te vs σ Q H1))
theorem e_lcZ {K : PySem.W.Frag} {ta : TA} {g : TG} {tt : TT} {te : TE} {vs : List Nat} {σ : L2.St} {H : Hp} {Q : VK} : tLc (iZipA K ta) g tt te vs σ H Q ↔ ta σ H (CZ K g tt te vs σ Q) := Iff.rfl
theorem g_CZ {K : PySem.W.Frag} {g : TG} {tt : TT} {te : TE} {vs : List Nat} {σ : L2.St} {Q : VK} {H1 : Hp} {a b : Addr} {us ws : List V} (ha : Tup H1 a us) (hb : Tup H1 b ws) (hl : us.length = ws.length) (P : Nat → Hp → List V → Prop)
    (p0 : ∀ D H2, H1 D = none → Keep [] H1 H2 → P 0 H2 [])
    (ps : ∀ D i x y H acc (R : VK) (R0 : Hp → Prop) T H', H1 D = none → us[i]? = some x → ws[i]? = some y → Keep [] H1 H' → H' D = some (.lst acc) → Keep [] H H' → P i H acc → H' T = some (.tup [x, y]) →
      (∀ z H4, Keep [] H' H4 → acc.length < sizeLine → (∀ H5, Keep [D] H4 H5 → P (i + 1) H5 (acc ++ [z])) → R z H4) → (∀ H3, Keep [] H' H3 → P (i + 1) H3 acc → R0 H3) →
      g (.ref T) (wipe σ vs) H' fun σ2 H2 => wipe σ2 vs = wipe σ vs ∧ tt σ2 H2 fun bb H3 => if bb = true then te σ2 H3 R else R0 H3)
    (pd : ∀ D H acc, H1 D = none → Keep [] H1 H → H D = some (.lst acc) → P us.length H acc → Q (.ref D) H) : CZ K g tt te vs σ Q [.ref a, .ref b] H1 := by
  refine ⟨a, b, us, ws, rfl, .inr ⟨ha.sq, hb.sq, fun D hD => ?_⟩⟩
  refine ⟨fun i m H => m = us.length - i ∧ i ≤ us.length ∧ Keep [] H1 H ∧ ∃ acc, H D = some (.lst acc) ∧ P i H acc, ⟨us.length, by omega, by omega, Keep.new hD, [], upd_same, p0 D _ hD (Keep.new hD)⟩, ?_⟩
  rintro i m H ⟨rfl, hi, k, acc, eD, p⟩
  have ta := (ha.keep k nin0).sq (K := K)
  have tb := (hb.keep k nin0).sq (K := K)
  by_cases hlt : i < us.length
  · have hx := List.getElem?_eq_getElem hlt
    have hy := List.getElem?_eq_getElem (show i < ws.length by omega)
    refine .inr ⟨⟨us, ws, _, _, ta, tb, hx, hy⟩, fun H' => i + 1 ≤ us.length ∧ Keep [] H1 H' ∧ ∃ acc, H' D = some (.lst acc) ∧ P (i + 1) H' acc, fun H' q => ⟨us.length - (i + 1), by omega, rfl, q⟩, fun v H' y => ?_⟩
    obtain ⟨T, x', y', rfl, hT, rfl, f1, f2⟩ := y
    have kn : Keep [] H (upd H T (.tup [x', y'])) := Keep.new hT
    refine ps D i x' y' H acc _ _ T _ hD (f1 us ta) (f2 ws tb) (k.trans kn) (kn _ _ nin0 eD) kn p upd_same (fun z H4 k4 hz q => ⟨acc, k4 _ _ nin0 (kn _ _ nin0 eD), hz, hlt, (k.trans (kn.trans k4)).past Keep.set hD, _, upd_same, q _ Keep.set⟩) fun H3 k3 q => ⟨hlt, k.trans (kn.trans k3), acc, k3 _ _ nin0 (kn _ _ nin0 eD), q⟩
  · have e : i = us.length := by omega
    subst e
    exact .inl ⟨⟨us, ws, ta, tb, .inl (Nat.le_refl _)⟩, pd D H acc hD k eD p⟩
/-! d[k], d[k] = v by values -/
def uDG (x y : V) (H : Hp) (Q : VK) : Prop := ∃ a v, x = .ref a ∧ DGet H a y (some v) ∧ Q v H
theorem e_dget {td ty : TE} {σ : L2.St} {H : Hp} {Q : VK} : tDGet td ty σ H Q ↔ td σ H fun x H1 => ty σ H1 fun y H2 => uDG x y H2 Q := Iff.rfl
def uDP (x y v : V) (H : Hp) (R : Hp → Prop) : Prop := ∃ a H4, x = .ref a ∧ DPut H a y v H4 ∧ R H4
theorem e_dput {td ty tv : TE} {D : Ends} {σ : L2.St} {H : Hp} : sDPut td ty tv D σ H ↔ tv σ H fun v H1 => td σ H1 fun x H2 => ty σ H2 fun y H3 => uDP x y v H3 (D.nx σ) := Iff.rfl
end Wg

/-! Wagon, part 13: sorted of alike data. -/
namespace Wg
open PySem PySem.Spec PyProof.Rows L2
theorem each_vals {α : Type} {RR : V → α → Prop} : ∀ {xs : List V} {us : List Value} {rs : List α}, Vals xs us → PySem.W.EachIs RR xs rs → PySem.W.EachIs (fun u r => ∃ x, RelV x u ∧ RR x r) us rs
  | _, _, _, .nil, .nil => .nil
  | _, _, _, .cons r q, .cons h t => .cons ⟨_, r, h⟩ (each_vals q t)
theorem vals_each {α : Type} {RR : V → α → Prop} : ∀ {us : List Value} {rs : List α}, PySem.W.EachIs (fun u r => ∃ x, RelV x u ∧ RR x r) us rs → ∃ xs, Vals xs us ∧ PySem.W.EachIs RR xs rs
  | _, _, .nil => ⟨[], .nil, .nil⟩
  | _, _, .cons ⟨x, h1, h2⟩ t => let ⟨xs, a, b⟩ := vals_each t; ⟨x :: xs, .cons h1 a, .cons h2 b⟩
/-- sorted(list of alike data): RR tells what the items are -/
def uSorted (K : PySem.W.Frag) : List V → Hp → VK → Prop := fun vs H Q => ∃ (α : Type) (RR : V → α → Prop) (enc : α → PyData) (a : Addr) (xs : List V) (rs : List α), vs = [.ref a] ∧ SqL K H a xs ∧ PySem.W.EachIs RR xs rs ∧
  (∀ x r, RR x r → Dp K H x (enc r)) ∧ PySem.W.AllAlike (rs.map enc) ∧ PySem.W.Sortable (rs.map enc) ∧ (∀ r ∈ rs, (enc r).depth ≤ 50) ∧
  ∀ ys, ys.length = xs.length → PySem.W.EachIs RR ys (rs.mergeSort (PySem.W.dataLe false enc)) → Mk H (.lst ys) Q
theorem call_uSorted {X : Cx} (hu : X.A.units + 64 < cLine) : CallR X (.builtin "sorted") (uSorted X.K) := by
  intro pins s σ H vs us Q I r h
  obtain ⟨α, RR, enc, a, xs, rs, rfl, hs, he, hd, ha, hk, hdp, q⟩ := h
  obtain ⟨its, rv, hl, hz⟩ := I.list hs
  obtain ⟨u, rfl, ru⟩ := vals1 r
  obtain rfl : u = Value.ref a := ru
  have er := each_vals rv he
  refine PySem.W.sorted_data (R := fun u r => ∃ x, RelV x u ∧ RR x r) hl.isList er (er.mono fun u r ⟨x, h1, h2⟩ => Dp.reads I _ _ _ (hd x r h2) h1) ha hk (by rw [← he.length]; exact hz) (fun b hb => by have := hdp b hb; omega) fun out ho eo => ?_
  obtain ⟨ys, v1, e1⟩ := vals_each eo
  obtain ⟨n, hn⟩ := sortedAll_at s.heap its (List.toArray out)
  have hly : ys.length = xs.length := by rw [v1.length, ho, he.length]
  refine ⟨.ref (s.heap.objs.size + 1), upd H (s.heap.objs.size + 1) (.lst ys), I.laid (t' := s.toks) (fun b o e => sortedAll_old e) (Nat.le_succ _) ⟨by rw [hly]; exact hz, out, n, v1, hn⟩, rfl, ?_⟩
  have nf := I.hok.fresh (Nat.le_succ s.heap.objs.size)
  exact q ys hly e1 _ _ nf (Keep.new nf) upd_same
end Wg

/-! Wagon, part 14: dict(pairs), list.clear. -/
namespace Wg
open PySem PySem.Spec PyProof.Rows L2
def uDictP (K : PySem.W.Frag) : List V → Hp → VK → Prop := fun xs H Q => ∃ (a : Addr) (ps : List Addr) (kvs : List (Key × V)), xs = [.ref a] ∧ SqL K H a (ps.map V.ref) ∧ Paired (fun p kv => SqT K H p [kV kv.1, kv.2]) ps kvs ∧ Mk H (.dK (mergeK [] kvs)) Q
theorem call_uDictP {X : Cx} (hc : X.calm = true) : CallR X (.type "dict") (uDictP X.K) := by
  intro pins s σ H xs us Q I r h
  obtain ⟨a, ps, kvs, e1, e2, e3, q⟩ := h
  exact call_dictP hc pins s σ H xs us Q I r ⟨a, ps, kvs, e1, e2, e3, fun p n => q.at p n⟩
def uClear : V → List V → Hp → VK → Prop := fun x vs H Q => ∃ l xs, x = .ref l ∧ vs = [] ∧ H l = some (.lst xs) ∧ Ch H l (.lst []) (Q .non)
theorem mt_uClear {X : Cx} : MtM X "list.clear" uClear := by
  intro pins s σ H x vs v us Q I rx rv h
  obtain ⟨l, xs, e1, e2, e3, q⟩ := h
  exact mt_clear pins s σ H x vs v us Q I rx rv ⟨l, xs, e1, e2, e3, q.at⟩
theorem g_clear {l : Addr} {xs : List V} {H : Hp} {Q : VK} (h : H l = some (.lst xs)) (q : ∀ H', Keep [l] H H' → H' l = some (.lst []) → Q .non H') : uClear (.ref l) [] H Q := ⟨l, xs, rfl, rfl, h, q⟩
theorem merge_nodup : ∀ (more acc : List (Key × V)), ((acc ++ more).map (·.1)).Nodup → mergeK acc more = acc ++ more
  | [], acc, _ => (List.append_nil acc).symm
  | (k, v) :: more, acc, h => by
    have e : acc ++ (k, v) :: more = (acc ++ [(k, v)]) ++ more := by simp
    have hk : (acc.any fun kv => decide (kv.1 = k)) = false := by
      rw [List.any_eq_false]
      intro x hx hq
      rw [List.map_append, List.nodup_append] at h
      exact h.2.2 x.1 (List.mem_map.mpr ⟨x, hx, rfl⟩) k (by simp) (of_decide_eq_true hq)
    have hp : putK acc k v = acc ++ [(k, v)] := by
      unfold putK
      rw [hk]
      rfl
    show mergeK (putK acc k v) more = _
    rw [hp, e]
    exact merge_nodup more _ (by rw [← e]; exact h)
end Wg
namespace Wg
open PySem PySem.Spec PyProof.Rows L2
def tTupRgM (te : L2.St → Hp → (Int → Int → Hp → Prop) → Prop) : TE := fun σ H Q => te σ H fun a b H1 => RgOk a b ∧ Mt H1 (rgV a b) Q
theorem pe_tupRgM {X : Cx} {e : Expr} {te : L2.St → Hp → (Int → Int → Hp → Prop) → Prop} {p pos : Pos} (hc : X.calm = true) (hg : Gl X "tuple") (hm : X.mg "tuple" = none) (he : PRg X e te) (na : starEach [e] X.env = (false, eval e X.env) :: starEach [] X.env := by rfl) : PE X (.Call (.Name "tuple" p) [e] [] pos) (tTupRgM te) := by
  refine ⟨fun pins s σ H Q I h => ?_⟩
  refine Call_ (ld_blt I hg hm boot_tuple (PyProof.Rows.callWith_type1 (args_cons (thn (he pins s σ H _ I h) fun x s1 ⟨r, a, b, t, u, v, H1, ex, hr, I1, ok, q⟩ => args_nil ?_) na) na))
  subst ex
  obtain ⟨b1, b2, b3, b4, b5⟩ := ok
  refine call_tuple_range (n := (b - a).toNat) (I1.ok.hd hc) hr (small_one b1 b2 b3 b4) (rangeSize_nat a b) b5 fun h' tk acc hk hi => ?_
  have I2 : Inv X pins σ H1 { s1 with heap := h', toks := tk } := I1.kept hk
  have := mt_end (t' := tk) I2 (vals_rg hi) (by rw [rgV_length, sizeLine_eq]; omega) q
  simpa using this
theorem rgV_ints (n : Nat) : rgV 0 (n : Int) = ((List.range n).map fun i => ((i : Nat) : Int)).map V.int := by
  unfold rgV
  rw [List.map_map]
  simp [Function.comp_def]
end Wg

/-! Wagon, part 15: < and min of alike data. -/
namespace Wg
open PySem PySem.Spec PyProof.Rows L2
def uLtD (K : PySem.W.Frag) : R2 := fun x y H Q => ∃ d e, Dp K H x d ∧ Dp K H y e ∧ PySem.W.alike d e = true ∧ d ≠ .none ∧ d.depth ≤ 50 ∧ Q (.bl (PySem.W.dataLt d e)) H
theorem op_uLtD {X : Cx} (hu : X.A.units + 64 < cLine) : OpR X (compareOp .Lt) (uLtD X.K) := by
  intro pins s σ H x y v u Q I rx ry h
  obtain ⟨d, e, h1, h2, h3, h4, h5, q⟩ := h
  obtain ⟨as, r1⟩ := Dp.reads I _ _ _ h1 rx
  obtain ⟨bs, r2⟩ := Dp.reads I _ _ _ h2 ry
  have := Nat.min_le_left d.depth e.depth
  exact PySem.W.lt_data r1 r2 h3 h4 (by omega) ⟨.bl _, H, I, rfl, q⟩
def uMinD (K : PySem.W.Frag) : List V → Hp → VK → Prop := fun vs H Q => ∃ (α : Type) (RR : V → α → Prop) (enc : α → PyData) (a : Addr) (xs : List V) (r : α) (rs : List α), vs = [.ref a] ∧ SqL K H a xs ∧ PySem.W.EachIs RR xs (r :: rs) ∧
  (∀ x r, RR x r → Dp K H x (enc r)) ∧ PySem.W.AlikeAll ((r :: rs).map enc) ∧ PyData.depthAll ((r :: rs).map enc) ≤ 50 ∧ ∀ x m, RR x m → enc m = PySem.W.minD (enc r) (rs.map enc) → Q x H
theorem each_reads {X : Cx} {pins : List (Addr × Obj)} {σ : L2.St} {H : Hp} {s : Shared} (I : Inv X pins σ H s) {α : Type} {RR : V → α → Prop} {enc : α → PyData} (hd : ∀ x r, RR x r → Dp X.K H x (enc r)) : ∀ {xs : List V} {us : List Value} {rs : List α}, Vals xs us → PySem.W.EachIs RR xs rs → ∃ as, ReadsAll s.heap us (rs.map enc) as
  | _, _, _, .nil, .nil => ⟨[], .nil⟩
  | _, _, _, .cons r q, .cons h t => by
    obtain ⟨as, h1⟩ := Dp.reads I _ _ _ (hd _ _ h) r
    obtain ⟨bs, h2⟩ := each_reads I hd q t
    exact ⟨as ++ bs, .cons h1 h2⟩
theorem call_uMinD {X : Cx} (hc : X.calm = true) (hu : X.A.units + 64 < cLine) : CallR X (.builtin "min") (uMinD X.K) := by
  intro pins s σ H vs us Q I r h
  obtain ⟨α, RR, enc, a, xs, r0, rs, rfl, hs, he, hd, ha, hdp, q⟩ := h
  obtain ⟨its, rv, hl, hz⟩ := I.list hs
  obtain ⟨u, rfl, ru⟩ := vals1 r
  obtain rfl : u = Value.ref a := ru
  obtain ⟨as, hr⟩ := each_reads I hd rv he
  refine PySem.W.min_list_data (I.ok.hd hc) hl.isList (x := enc r0) (xs := rs.map enc) (as := as) hr ha (by have e : PyData.depthAll (enc r0 :: rs.map enc) = PyData.depthAll ((r0 :: rs).map enc) := rfl; omega) fun i v h' tk bs hv rd hk => ?_
  have hv' : its[i]? = some v := by simpa using hv
  obtain ⟨b, hb, x, hx, hR⟩ := (each_vals rv he).left v (List.mem_of_getElem? hv')
  refine ⟨x, H, I.kept hk, hx, q x b hR ?_⟩
  obtain ⟨cs, r2⟩ := Dp.reads I _ _ _ (hd _ _ hR) hx
  exact (reads_det (fun b o e _ => hk b o e) r2 rd).1.symm
theorem minD_map {α : Type} (enc : α → PyData) (r : α) (rs : List α) : PySem.W.minD (enc r) (rs.map enc) = enc (rs.foldl (fun a y => if PySem.W.dataLt (enc y) (enc a) then y else a) r) := by
  unfold PySem.W.minD
  induction rs generalizing r with
  | nil => rfl
  | cons b rs ih =>
    rw [List.map_cons, List.foldl_cons, List.foldl_cons, ← ih]
    congr 1
    split <;> rfl
end Wg
namespace Wg
open PySem PySem.Spec PyProof.Rows L2
/-- a for over enumerate(list), behind its argument -/
def FEl (K : PySem.W.Frag) (g : TG) (tb : TS) (D : Ends) (σ : L2.St) (vs : List V) (H1 : Hp) : Prop := ∃ a xs, vs = [.ref a] ∧ SqL K H1 a xs ∧ ∃ W : Nat → Nat → L2.St → Hp → Prop, (∃ m, W 0 m σ H1) ∧ ∀ i m σ H, W i m σ H →
  ((Ite K a).stop i H ∧ D.nx σ H) ∨ ((Ite K a).go i H ∧ ∃ N : L2.St → Hp → Prop, (∀ σ' H', N σ' H' → ∃ m', m' < m ∧ W (i + 1) m' σ' H') ∧ ∀ x H', (Ite K a).yld i H x H' → g x σ H' fun σ2 H2 => tb { D with nx := N, ct := N, bk := D.nx } σ2 H2)
theorem e_forEl {K : PySem.W.Frag} {ta : TA} {g : TG} {tb : TS} {D : Ends} {σ : L2.St} {H : Hp} : tFor (iEnum K ta) g tb D σ H ↔ ta σ H (FEl K g tb D σ) := Iff.rfl
theorem g_FEl {K : PySem.W.Frag} {g : TG} {tb : TS} {D : Ends} {σ : L2.St} {H1 : Hp} {a : Addr} {xs : List V} (Pv : Nat → L2.St → Hp → Prop) (h : H1 a = some (.lst xs)) (h0 : Pv 0 σ H1) (hl : ∀ i σ H, i ≤ xs.length → Pv i σ H → H a = some (.lst xs))
    (hs : ∀ i x σ H T H', xs[i]? = some x → Pv i σ H → H T = none → Keep [] H H' → H' T = some (.tup [.int (i : Nat), x]) → g (.ref T) σ H' fun σ2 H2 => tb { D with nx := Pv (i + 1), ct := Pv (i + 1), bk := D.nx } σ2 H2) (hd : ∀ σ H, Pv xs.length σ H → D.nx σ H) : FEl K g tb D σ [.ref a] H1 := by
  refine ⟨a, xs, rfl, lst_sq h, fun i m σ H => m = xs.length - i ∧ i ≤ xs.length ∧ Pv i σ H, ⟨xs.length, by simp, Nat.zero_le _, h0⟩, ?_⟩
  rintro i m σ H ⟨rfl, hi, p⟩
  have tu := lst_sq (K := K) (hl i σ H hi p)
  by_cases hlt : i < xs.length
  · refine .inr ⟨⟨xs, _, tu, List.getElem?_eq_getElem hlt⟩, Pv (i + 1), fun σ' H' p' => ⟨xs.length - (i + 1), by omega, rfl, hlt, p'⟩, fun x H' y => ?_⟩
    obtain ⟨T, u, rfl, nT, rfl, hu⟩ := y
    exact hs i u σ H T _ (hu xs tu) p nT (Keep.new nT) upd_same
  · have e : i = xs.length := by omega
    subst e
    exact .inl ⟨⟨xs, tu, Nat.le_refl _⟩, hd σ H p⟩
theorem g_truL {K : PySem.W.Frag} {p : Addr} {xs : List V} {H : Hp} {k : Bool} (h : H p = some (.lst xs)) (e : k = !xs.isEmpty) : TruV K (.ref p) H k := .inl ⟨xs, lst_sq h, e⟩
end Wg

/-! Wagon, part 16: list.remove of data; whiles. -/
namespace Wg
open PySem PySem.Spec PyProof.Rows L2
def uRemD (K : PySem.W.Frag) : V → List V → Hp → VK → Prop := fun x vs H Q => ∃ (l : Addr) (xs : List V) (y : V) (d : PyData) (ds : List PyData) (j : Nat), x = .ref l ∧ vs = [y] ∧ H l = some (.lst xs) ∧ DpAll K H xs ds ∧ Dp K H y d ∧
  PyData.plainAll ds = true ∧ d.plain = true ∧ d.depth ≤ 50 ∧ PySem.SeqAt.dataPlace ds d = some j ∧ Ch H l (.lst (xs.eraseIdx j)) (Q .non)
theorem mt_uRemD {X : Cx} (hu : X.A.units + 64 < cLine) : MtM X "list.remove" (uRemD X.K) := by
  intro pins s σ H x vs v us Q I rx rv h
  obtain ⟨l, xs, y, d, ds, j, rfl, rfl, hH, hds, hd, p1, p2, hdp, hj, q⟩ := h
  cases rx
  obtain ⟨u, rfl, ru⟩ := rv.one
  obtain ⟨z, its, n, r, hl, e⟩ := I.lstM hH
  obtain ⟨as, rs⟩ := Dp.readsAll I _ _ _ hds r
  obtain ⟨bs, rd⟩ := Dp.reads I _ _ _ hd ru
  have := Nat.min_le_right (PyData.depthAll ds) d.depth
  refine PySem.SeqAt.remove_list_data (j := j) ⟨_, e, rfl, n, rfl⟩ (by simpa using rs) rd p1 p2 (by omega) hj (by rw [List.size_toArray]; omega) ?_
  refine ⟨.non, _, I.lset (its' := its.eraseIdx j) (ys := xs.eraseIdx j) (t' := s.toks) hH e ?_ (r.eraseIdx j) ?_, rfl, q.at⟩
  · show its.toArray.eraseIdxIfInBounds j = (its.eraseIdx j).toArray
    rw [List.eraseIdxIfInBounds_toArray]
  · have := List.length_eraseIdx_le xs j
    omega
end Wg

/-! Wagon, part 17: tuple + tuple wherever they stand. -/
namespace Wg
open PySem PySem.Spec PyProof.Rows L2
def uAddQ (K : PySem.W.Frag) : R2 := fun x y H Q => ∃ a b xs ys, x = .ref a ∧ y = .ref b ∧ SqT K H a xs ∧ SqT K H b ys ∧ xs ≠ [] ∧ ys ≠ [] ∧ xs.length + ys.length ≤ sizeLine ∧ Mt H (xs ++ ys) Q
theorem op_uAddQ {X : Cx} : OpR X (binaryOp .Add) (uAddQ X.K) := by
  intro pins s σ H x y v u Q I rx ry h
  obtain ⟨a, b, xs, ys, rfl, rfl, ha, hb, e1, e2, z, q⟩ := h
  cases rx
  cases ry
  obtain ⟨its, r1, p1, _⟩ := I.tuple ha
  obtain ⟨its2, r2, p2, _⟩ := I.tuple hb
  refine HT.cat_tup p1 p2 (fun c => e1 (r1.nil_iff.mp c)) (fun c => absurd (r2.nil_iff.mp c) e2) (fun c => ?_) (by rw [← r1.length, ← r2.length]; exact z)
  exact mt_end (t' := s.toks) I (r1.append r2) (by rw [List.length_append]; exact z) q
end Wg

/-! Wagon, part 18: a comprehension of two fors; list.extend by a list or tuple. -/
namespace Wg
open PySem PySem.Spec PyProof.Rows L2

def CU2 (K : PySem.W.Frag) (g : TG) (tt : TT) (wi1 : TI) (g1 : TG) (tt1 : TT) (te : TE) (vs vs1 : List Nat) (σ : L2.St) (Q : VK) (x : V) (H1 : Hp) : Prop := tLc2 (iU K (tC x)) g tt wi1 g1 tt1 te vs vs1 σ H1 Q
theorem e_lc2U {K : PySem.W.Frag} {tl : TE} {g : TG} {tt : TT} {wi1 : TI} {g1 : TG} {tt1 : TT} {te : TE} {vs vs1 : List Nat} {σ : L2.St} {H : Hp} {Q : VK} : tLc2 (iU K tl) g tt wi1 g1 tt1 te vs vs1 σ H Q ↔ tl σ H (CU2 K g tt wi1 g1 tt1 te vs vs1 σ Q) := Iff.rfl
/-- [y for z in zs for y in f(z)], of texts; f(z) a fresh list -/
theorem g_C2 {K : PySem.W.Frag} {tl1 : TE} {σ : L2.St} {H1 : Hp} {Q : VK} {a : Addr} {i j : Nat} {vs vs1 : List Nat} (zs : List Str) (f : Str → List Str) (hx : H1 a = some (.lst (zs.map V.str)) ∨ Tup H1 a (zs.map V.str))
    (hw : ∀ v, wipe ((wipe σ vs).set i v) vs = wipe σ vs) (hw1 : ∀ v u, wipe ((wipe ((wipe σ vs).set i v) vs1).set j u) vs1 = wipe ((wipe σ vs).set i v) vs1) (hw2 : ∀ v, wipe ((wipe σ vs).set i v) vs1 = (wipe σ vs).set i v)
    (hj : ∀ v u, ((wipe ((wipe σ vs).set i v) vs1).set j (some u))[j]? = some (some u))
    (hl : ∀ ws : List Str, (∀ z ∈ ws, z ∈ zs) → ws.length ≤ zs.length → (ws.flatMap f).length < 1000) (hl1 : ∀ z ∈ zs, (f z).length < 1000)
    (hc : ∀ z ∈ zs, ∀ H3 (Q1 : VK), Keep [] H1 H3 → (∀ l H4, H3 l = none → Keep [] H3 H4 → H4 l = some (.lst ((f z).map V.str)) → Q1 (.ref l) H4) → tl1 ((wipe σ vs).set i (some (.str z))) H3 Q1)
    (hd : ∀ D H, H1 D = none → Keep [] H1 H → H D = some (.lst ((zs.flatMap f).map V.str)) → Q (.ref D) H) : CU2 K (gName i) tYes (iU K tl1) (gName j) tYes (tVar j) vs vs1 σ Q (.ref a) H1 := by
  have core : ∀ J : It, (∀ n H, n < zs.length → Keep [] H1 H → J.go n H) → (∀ n H x H', n < zs.length → Keep [] H1 H → J.yld n H x H' → x = .str (zs.getD n "") ∧ H' = H) → (∀ H, Keep [] H1 H → J.stop zs.length H) →
      ∀ D, H1 D = none → ∃ W : Nat → Nat → Hp → Prop, (∃ m, W 0 m (upd H1 D (.lst []))) ∧ ∀ n m H, W n m H →
  (J.stop n H ∧ Q (.ref D) H) ∨ (J.go n H ∧ ∃ Nx : Hp → Prop, (∀ H', Nx H' → ∃ m', m' < m ∧ W (n + 1) m' H') ∧ ∀ x H', J.yld n H x H' → gName i x (wipe σ vs) H' fun σ2 H2 => wipe σ2 vs = wipe σ vs ∧ tYes σ2 H2 fun b H3 =>
    if b = true then iU K tl1 σ2 H3 fun J1 H4 => ∃ W1 : Nat → Nat → Hp → Prop, (∃ m, W1 0 m H4) ∧ ∀ jj k H, W1 jj k H →
      (J1.stop jj H ∧ Nx H) ∨ (J1.go jj H ∧ ∃ Nx1 : Hp → Prop, (∀ H', Nx1 H' → ∃ k', k' < k ∧ W1 (jj + 1) k' H') ∧ ∀ x H', J1.yld jj H x H' → gName j x (wipe σ2 vs1) H' fun σ3 H5 => wipe σ3 vs1 = wipe σ2 vs1 ∧ tYes σ3 H5 fun b H6 =>
        if b = true then tVar j σ3 H6 fun y H7 => ∃ acc, H7 D = some (.lst acc) ∧ acc.length < sizeLine ∧ Nx1 (upd H7 D (.lst (acc ++ [y]))) else Nx1 H6)
    else Nx H3) := by
    intro J hgo hy hst D hD
    refine ⟨fun n m H => m = zs.length - n ∧ n ≤ zs.length ∧ Keep [] H1 H ∧ H D = some (.lst (((zs.take n).flatMap f).map V.str)), ⟨zs.length, by omega, by omega, Keep.new hD, upd_same⟩, ?_⟩
    rintro n m H ⟨rfl, hn, k, eD⟩
    by_cases hlt : n < zs.length
    · refine .inr ⟨hgo n H hlt k, fun H' => Keep [] H1 H' ∧ H' D = some (.lst (((zs.take (n + 1)).flatMap f).map V.str)), fun H' q => ⟨zs.length - (n + 1), by omega, rfl, hlt, q⟩, fun x H' y => ?_⟩
      obtain ⟨ex, eh⟩ := hy n H x H' hlt k y
      have hz : zs[n]? = some (zs.getD n "") := by rw [List.getD_eq_getElem?_getD, List.getElem?_eq_getElem hlt]; rfl
      rw [ex, eh]
      generalize zs.getD n "" = z at hz
      have hzm := List.mem_of_getElem? hz
      have htk : (zs.take (n + 1)).flatMap f = (zs.take n).flatMap f ++ f z := by rw [List.take_succ, hz, List.flatMap_append]; simp
      refine ⟨hw _, ?_⟩
      unfold tYes
      show (if true = true then _ else _)
      rw [if_pos rfl]
      refine hc z hzm H _ k fun l H4 nl k4 e4 => .inl ⟨l, _, rfl, lst_sq e4, ?_⟩
      have nDl : D ≠ l := ne_of_none eD nl
      refine ⟨fun jj kk H' => kk = (f z).length - jj ∧ jj ≤ (f z).length ∧ Keep [D] H4 H' ∧ H' D = some (.lst (((zs.take n).flatMap f ++ (f z).take jj).map V.str)), ⟨(f z).length, by omega, by omega, Keep.refl _ _, by rw [List.take_zero, List.append_nil]; exact k4 _ _ nin0 eD⟩, ?_⟩
      rintro jj kk H5 ⟨rfl, hjj, k5, e5⟩
      have el5 := k5 _ _ (nin1 nDl.symm) e4
      by_cases hlt2 : jj < (f z).length
      · have hy2 : (f z)[jj]? = some (f z)[jj] := List.getElem?_eq_getElem hlt2
        have hym : ((f z).map V.str)[jj]? = some (.str (f z)[jj]) := by rw [List.getElem?_map, hy2]; rfl
        refine .inr ⟨⟨_, _, lst_sq el5, hym⟩, fun H' => Keep [D] H4 H' ∧ H' D = some (.lst (((zs.take n).flatMap f ++ (f z).take (jj + 1)).map V.str)), fun H' q => ⟨(f z).length - (jj + 1), by omega, rfl, hlt2, q⟩, fun x H' y => ?_⟩
        obtain ⟨e1, e2⟩ := y
        have e3 := e2 _ (lst_sq el5)
        rw [hym] at e3
        cases e3
        rw [e1]
        refine ⟨hw1 _ _, ?_⟩
        show (if true = true then _ else _)
        rw [if_pos rfl]
        refine ⟨_, hj _ _, _, e5, ?_, k5.trans Keep.set, ?_⟩
        · have h1 := hl (zs.take n) (fun w hw => List.mem_of_mem_take hw) (by rw [List.length_take]; omega)
          have h2 := hl1 z hzm
          rw [List.length_map, List.length_append, List.length_take]
          exact len_lt (by omega)
        · rw [upd_same, List.take_succ, hy2]
          simp only [List.map_append, Option.toList, List.map_cons, List.map_nil, List.append_assoc]
      · have e : jj = (f z).length := by omega
        subst e
        refine .inl ⟨⟨_, lst_sq el5, by rw [List.length_map]; exact Nat.le_refl _⟩, (k.trans k4).past k5 hD, ?_⟩
        rw [htk, e5, List.take_length]
    · have e : n = zs.length := by omega
      subst e
      rw [List.take_length] at eD
      exact .inl ⟨hst H k, hd D H hD k eD⟩
  have gt : ∀ {n : Nat}, n < zs.length → (zs.map V.str)[n]? = some (.str (zs.getD n "")) := fun h => by
    rw [List.getElem?_map, List.getD_eq_getElem?_getD, List.getElem?_eq_getElem h]; rfl
  rcases hx with hx | hx
  · refine .inl ⟨a, _, rfl, lst_sq hx, core (Itl K a) (fun n H h k => ⟨_, _, lst_sq (k _ _ nin0 hx), gt h⟩) (fun n H x H' h k y => ?_) fun H k => ⟨_, lst_sq (k _ _ nin0 hx), by rw [List.length_map]; exact Nat.le_refl _⟩⟩
    obtain ⟨e1, e2⟩ := y
    have := e2 _ (lst_sq (k _ _ nin0 hx))
    rw [gt h] at this
    cases this
    exact ⟨rfl, e1⟩
  · refine .inr (.inl ⟨a, _, rfl, hx.sq, core (Itt K a) (fun n H h k => ⟨_, _, (hx.keep k nin0).sq, gt h⟩) (fun n H x H' h k y => ?_) fun H k => ⟨_, (hx.keep k nin0).sq, by rw [List.length_map]; exact Nat.le_refl _⟩⟩)
    obtain ⟨e1, e2⟩ := y
    have := e2 _ (hx.keep k nin0).sq
    rw [gt h] at this
    cases this
    exact ⟨rfl, e1⟩
/-- a comprehension within a comprehension, that reads no name of what is around it but by cells that are there -/
theorem blkOk_any {N : List Str} {sc scope : Scope} {own : List (Str × Nat)} (h : blkC N { kind := .function, names := [], isGenerator := false, isCoroutine := false } scope own = true) : BlkOk N sc scope own := by
  have b := blkOk_by h
  exact ⟨b.kind, b.uniq, b.ix, fun y hy e => by rcases b.free y hy e with z | z <;> simp at z, b.own⟩
section
variable {X : Cx}
/-- a proper slice of a tuple wherever it stands -/
def uSlQ (K : PySem.W.Frag) : V → Option Int → Option Int → Hp → VK → Prop := fun x lo hi H Q => ∃ a xs, x = .ref a ∧ SqT K H a xs ∧ ¬ (HT.sIx xs.length 0 lo = 0 ∧ HT.sIx xs.length xs.length hi = xs.length) ∧ Mt H (cutV xs lo hi) Q
theorem sl_uQ : SlR X (uSlQ X.K) := by
  intro pins s σ H x v vl vu lo hi sl Q I rx hs pl pu h
  obtain ⟨a, xs, rfl, hx, c, q2⟩ := h
  cases rx
  obtain ⟨its, r, ht, hz⟩ := I.tuple hx
  have hlen : its.toArray.size = xs.length := by
    rw [List.size_toArray]
    exact r.length.symm
  refine ⟨"tuple", _, PyProof.Rows.slot_tuple_getitem.lookup, ht.typeIs, ?_⟩
  refine HT.getItem_tuple_cut ht hs pl pu (by rw [hlen]; exact c) ?_ (by rw [hlen]; exact hz)
  rw [hlen]
  exact mt_end (t' := s.toks) I ((r.drop (HT.sIx xs.length 0 lo)).take (HT.sIx xs.length xs.length hi - HT.sIx xs.length 0 lo)) (Nat.le_trans (cutV_length xs lo hi) hz) q2
def uExtT : V → List V → Hp → VK → Prop := fun x vs H Q => ∃ l b xs zs, x = .ref l ∧ vs = [.ref b] ∧ H l = some (.lst xs) ∧ (H b = some (.lst zs) ∨ Tup H b zs) ∧ xs.length + zs.length ≤ sizeLine ∧ Ch H l (.lst (xs ++ zs)) (Q .non)
theorem mt_uExtT : MtM X "list.extend" uExtT := by
  intro pins s σ H x vs v us Q I rx rv h
  obtain ⟨l, b, xs, zs, e1, e2, e3, e4, e5, q⟩ := h
  rcases e4 with e4 | e4
  · exact mt_extend pins s σ H x vs v us Q I rx rv ⟨l, b, xs, zs, e1, e2, e3, e4, e5, q.at⟩
  · subst e1 e2
    cases rx
    obtain ⟨u, rfl, ru⟩ := rv.one
    cases ru
    obtain ⟨z, its, n, r, hl, e⟩ := I.lstM e3
    obtain ⟨its2, n2, r2, hl2, e2⟩ := Tup.obj I e4
    have l2 := r2.length
    have hsz : its.toArray.size + its2.toArray.size ≤ sizeLine := by rw [List.size_toArray, List.size_toArray]; omega
    have hlong : ¬ (!its.toArray.isEmpty && Builtin.List.listTooLong (its.toArray.size + its2.toArray.size)) = true := by
      rw [notLongL hsz, Bool.and_false]
      exact Bool.false_ne_true
    refine call_meets F.slot_list_extend ⟨_, e, rfl⟩ F.entry_list_extend (F.args_list_extend_2 _ _)
      (AutoSeq1.list_extend_list_tuple_0 l its.toArray n b its2.toArray n2 hlong (by rw [List.size_toArray]; omega) (by omega)) ⟨e, e2, ?_⟩
    refine ⟨.non, _, I.lset (its' := its ++ its2) e3 e (by simp) (r.append r2) ?_, rfl, q.at⟩
    rw [List.length_append]
    omega
end
theorem g_extT {l b : Addr} {xs zs : List V} {H : Hp} {Q : VK} (h : H l = some (.lst xs)) (e : Tup H b zs) (z : xs.length + zs.length ≤ 1000) (q : ∀ H', Keep [l] H H' → H' l = some (.lst (xs ++ zs)) → Q .non H') : uExtT (.ref l) [.ref b] H Q := ⟨l, b, xs, zs, rfl, rfl, h, .inr e, len_le (by omega), q⟩
end Wg

/-! Wagon, part 19: xs[::k], k 1 or -1, of a list. -/
namespace Wg
open PySem PySem.Spec PyProof.Rows L2
theorem pick_one (items : Array Value) : slicePick items none none (some 1) = items := by
  have h : slicePick items none none (some 1) = slicePick items none none none := rfl
  rw [h, show items = items.toList.toArray by simp, slicePick_cut]
  simp [HT.sIx]
  rw [List.take_of_length_le (by simp)]
section
variable {X : Cx}
def tStepL (K : PySem.W.Frag) (te ts : TE) : TE := fun σ H Q => te σ H fun x H1 => tPart ts σ H1 fun o H2 => ∃ a xs v, x = .ref a ∧ SqL K H2 a xs ∧ o = some v ∧ (v = 1 ∨ v = -1) ∧ ∀ p, H2 p = none → Q (.ref p) (upd H2 p (.lst (if v = 1 then xs else xs.reverse)))
theorem pe_stepL {e es : Expr} {te ts : TE} {p3 pos : Pos} (he : PE X e te) (hs : PE X es ts) : PE X (.Subscript e (.Slice none none (some es) p3) pos) (tStepL X.K te ts) := by
  refine ⟨fun pins s σ H Q I h => ?_⟩
  refine Subscript_ (thn (he.run pins s σ H _ I h) fun v s1 ⟨x, H1, I1, r1, q1⟩ => ?_)
  have hst : PO X (some es) (tPart ts) := po_some hs
  refine wpAny_Slice (thn (po_none.run pins s1 σ H1 (fun o H2 => o = none ∧ H2 = H1) I1 ⟨rfl, rfl⟩) fun vl s2 ⟨l, H2, I2, pl, el, e2⟩ => ?_)
  subst el e2
  refine thn (po_none.run pins s2 σ H2 (fun o H3 => o = none ∧ H3 = H2) I2 ⟨rfl, rfl⟩) fun vu s3 ⟨u, H3, I3, pu, eu, e3⟩ => ?_
  subst eu e3
  refine thn (hst.run pins s3 σ H3 _ I3 q1) fun vs s4 ⟨o, H4, I4, ps, q4⟩ => ?_
  obtain ⟨a, xs, w, ex, hx, eo, hw, q⟩ := q4
  subst ex eo
  cases r1
  have I5 : Inv X pins σ H4 { s4 with heap := s4.heap.push { cls := .type "slice", data := .fields #[vl, vu, vs] } } := I4.kept (t' := s4.toks) fun b ob q => Heap.get?_push_of_some _ q
  obtain ⟨its, r, ht, hz⟩ := I5.list hx
  have hlen := r.length
  show wpAny (model X.prog X.w) X.A (subscriptTail e (.Slice none none (some es) p3) (.ref a) (.ref s4.heap.objs.size)) (EP X pins σ Q) X.xe { s4 with heap := s4.heap.push { cls := .type "slice", data := .fields #[vl, vu, vs] } }
  refine tail_any (ops := [.ref a, .ref s4.heap.objs.size]) ht.isList.typeIs (PySem.slot_list_getitem.lookup) ?_ (by with_unfolding_all rfl)
  refine wpAny_getItem_list_slice ht.isList (Heap.IsSliceOf.new _ vl vu vs) pl pu ps (by rcases hw with rfl | rfl <;> decide) ?_ (by rw [List.size_toArray]; omega)
  rcases hw with rfl | rfl
  · rw [pick_one]
    refine ⟨.ref _, _, I5.laid (t' := s4.toks) (o := .lst xs) (fun b ob q => Heap.get?_push_of_some _ q) (Nat.le_refl _) ?_, rfl, q _ (I5.hok.fresh (Nat.le_refl _))⟩
    exact ⟨hz, _, 0, r, Heap.get?_push_size _ rfl⟩
  · rw [PySem.W.krv_pick]
    refine ⟨.ref _, _, I5.laid (t' := s4.toks) (o := .lst xs.reverse) (fun b ob q => Heap.get?_push_of_some _ q) (Nat.le_refl _) ?_, rfl, q _ (I5.hok.fresh (Nat.le_refl _))⟩
    exact ⟨by rw [List.length_reverse]; exact hz, _, 0, r.reverse, Heap.get?_push_size _ rfl⟩
end
theorem e_stepL {K : PySem.W.Frag} {te ts : TE} {σ : L2.St} {H : Hp} {Q : VK} : tStepL K te ts σ H Q ↔ te σ H fun x H1 => ts σ H1 fun y H2 => ∃ i, y = .int i ∧ ∃ a xs v, x = .ref a ∧ SqL K H2 a xs ∧ some i = some v ∧ (v = 1 ∨ v = -1) ∧ ∀ p, H2 p = none → Q (.ref p) (upd H2 p (.lst (if v = 1 then xs else xs.reverse))) := Iff.rfl
end Wg

/-! Wagon, part 20: a for over zip of two tuples  -/
namespace Wg
open PySem PySem.Spec PyProof.Rows L2 RZ
def FZ (K : PySem.W.Frag) (g : TG) (tb : TS) (D : Ends) (σ : L2.St) (vs : List V) (H1 : Hp) : Prop := tFor (iZipA K (fun _ H Q => Q vs H)) g tb D σ H1
theorem e_forZ {K : PySem.W.Frag} {ta : TA} {g : TG} {tb : TS} {D : Ends} {σ : L2.St} {H : Hp} : tFor (iZipA K ta) g tb D σ H ↔ ta σ H (FZ K g tb D σ) := Iff.rfl
theorem g_FZ {K : PySem.W.Frag} {g : TG} {tb : TS} {D : Ends} {σ : L2.St} {H1 : Hp} {a b : Addr} {xs ys : List V} (Pv : Nat → L2.St → Hp → Prop) (ha : Tup H1 a xs) (hb : Tup H1 b ys) (hl2 : xs.length = ys.length) (h0 : Pv 0 σ H1) (hl : ∀ i σ H, i ≤ xs.length → Pv i σ H → Tup H a xs ∧ Tup H b ys)
    (hs : ∀ i x y σ H T H', xs[i]? = some x → ys[i]? = some y → Pv i σ H → H T = none → Keep [] H H' → H' T = some (.tup [x, y]) → g (.ref T) σ H' fun σ2 H2 => tb { D with nx := Pv (i + 1), ct := Pv (i + 1), bk := D.nx } σ2 H2) (hd : ∀ σ H, Pv xs.length σ H → D.nx σ H) : FZ K g tb D σ [.ref a, .ref b] H1 := by
  refine ⟨a, b, xs, ys, rfl, .inr ⟨ha.sq, hb.sq, fun i m σ H => m = xs.length - i ∧ i ≤ xs.length ∧ Pv i σ H, ⟨xs.length, by simp, Nat.zero_le _, h0⟩, ?_⟩⟩
  rintro i m σ H ⟨rfl, hi, p⟩
  obtain ⟨ta, tb'⟩ := hl i σ H hi p
  by_cases hlt : i < xs.length
  · have hx := List.getElem?_eq_getElem hlt
    have hy := List.getElem?_eq_getElem (show i < ys.length by omega)
    refine .inr ⟨⟨xs, ys, _, _, ta.sq, tb'.sq, hx, hy⟩, Pv (i + 1), fun σ' H' p' => ⟨xs.length - (i + 1), by omega, rfl, hlt, p'⟩, fun x H' y => ?_⟩
    obtain ⟨T, x', y', rfl, nT, rfl, f1, f2⟩ := y
    exact hs i x' y' σ H T _ (f1 xs ta.sq) (f2 ys tb'.sq) p nT (Keep.new nT) upd_same
  · have e : i = xs.length := by omega
    subst e
    exact .inl ⟨⟨xs, ys, ta.sq, tb'.sq, .inl (Nat.le_refl _)⟩, hd σ H p⟩
end Wg

/-! Wagon, part 21: xs[a:b] = ys. -/
namespace Wg
open PySem PySem.Spec PyProof.Rows L2
section
variable {X : Cx}
def gSli (to tl th : TE) : TG := fun v σ H R => to σ H fun x H1 => tl σ H1 fun i H2 => th σ H2 fun j H3 => ∃ l b xs ys a c, x = .ref l ∧ v = .ref b ∧ i = .int a ∧ j = .int c ∧ H3 l = some (.lst xs) ∧ H3 b = some (.lst ys) ∧ l ≠ b ∧ 0 ≤ a ∧ a ≤ c ∧ c ≤ xs.length ∧ xs.length + ys.length ≤ sizeLine ∧
  Ch H3 l (.lst (xs.take a.toNat ++ ys ++ xs.drop c.toNat)) (R σ)
theorem pg_sli {o lo hi : Expr} {to tl th : TE} {p2 pos : Pos} (ho : PE X o to) (hl : PE X lo tl) (hh : PE X hi th)
    (ha : ∀ v, assign (.Subscript o (.Slice (some lo) (some hi) none p2) pos) X.env v = (do
      let ov ← holding [v] (eval o X.env)
      let iv ← holding [v, ov] (eval (.Slice (some lo) (some hi) none p2) X.env)
      standAt pos
      holding [v, ov, iv] (setItem ov iv v)
      release [iv, v, ov] []) := by intro _; rfl) : PG X (.Subscript o (.Slice (some lo) (some hi) none p2) pos) (gSli to tl th) := by
  refine ⟨fun pins s σ H v u Q I r h => ?_⟩
  rw [ha]
  refine wpAny_bind (wpAny_holding (thn (ho.run pins s σ H _ I h) fun ov s1 ⟨x, H1, I1, r1, q1⟩ => ?_))
  refine wpAny_bind (wpAny_holding ?_)
  refine wpAny_Slice ?_
  rw [evalPart_some, evalPart_some, evalPart_none]
  refine thn (hl.run pins s1 σ H1 _ I1 q1) fun vl s2 ⟨i, H2, I2, r2, q2⟩ => thn (hh.run pins s2 σ H2 _ I2 q2) fun vu s3 ⟨j, H3, I3, r3, q3⟩ => ?_
  refine wpAny_pure ?_
  obtain ⟨l, b, xs, ys, a, c, rfl, rfl, rfl, rfl, e1, e2, ne, h0, hac, hc, hz, q⟩ := q3
  cases r1
  cases r
  have I4 : Inv X pins σ H3 { s3 with heap := s3.heap.push { cls := .type "slice", data := .fields #[vl, vu, .none] } } := I3.kept (t' := s3.toks) fun b ob q => Heap.get?_push_of_some _ q
  refine wpAny_bind (wpAny_standAt (wpAny_bind (wpAny_holding (set_slice I4 e1 e2 ne (Heap.IsSliceOf.new ..) r2 r3 h0 hac hc hz fun s' I5 => ?_))))
  exact wpAny_release ⟨σ, _, I5, q.at⟩
end
end Wg

/-! Wagon, part 22: min(xs, default=None) of a list of ints. -/
namespace Wg
open PySem PySem.Spec PyProof.Rows L2
section
variable {X : Cx}
def tMinN (K : PySem.W.Frag) (ta : TE) : TE := fun σ H Q => ta σ H fun x H1 => ∃ a ns, x = .ref a ∧ SqL K H1 a (ns.map V.int) ∧ (ns = [] → Q .non H1) ∧ ∀ m, m ∈ ns → (∀ y, y ∈ ns → m ≤ y) → Q (.int m) H1
theorem pe_minN {a : Expr} {ta : TE} {j : Nat} {p p2 p3 pos : Pos} (hc : X.calm = true) (hu : X.A.units + 64 < cLine) (hg : Gl X "min") (hm : X.mg "min" = none) (ha : PE X a ta)
    (he : backTo pos (starEach [a] X.env) = (false, eval a X.env) :: backTo pos (starEach [] X.env) := by rfl) :
    PE X (.Call (.Name "min" p) [a] [⟨some "default", .Constant .none j p2, p3⟩] pos) (tMinN X.K ta) := by
  refine ⟨fun pins s σ H Q I h => ?_⟩
  refine wpAny_Call_Name_kw (ld_blt I hg hm (show bootBuiltins "min" = some (.builtin "min") by decide +kernel) ?_)
  refine PyProof.Rows.callWith_kw ?_ he (by rw [he]; rfl)
  rw [he]
  refine Calls.spliced_cons (thn (ha.run pins s σ H _ I h) fun v s1 ⟨x, H1, I1, r1, q1⟩ => ?_)
  refine Calls.spliced_nil ?_
  obtain ⟨l, ns, rfl, hs, q0, q⟩ := q1
  cases r1
  obtain ⟨its, rv, hl, hz⟩ := I1.list hs
  refine PyProof.Rows.kws_cons (Constant_none (PyProof.Rows.kws_nil ?_))
  show wpAny _ _ (call (.builtin "min") [Value.ref l] [(Str.ofString "default", Value.none)]) _ _ _
  have dps : ∀ ns : List Int, DpAll X.K H1 (ns.map V.int) (ns.map .int) := fun ns => by
    induction ns with
    | nil => exact .nil
    | cons n ns ih => exact .cons (.int n) ih
  obtain ⟨as, hr⟩ := Dp.readsAll I1 _ _ _ (dps ns) rv
  have al : PySem.W.AlikeAll (ns.map .int) := by
    refine ⟨fun x hx y hy => ?_, fun x hx => ?_⟩
    · obtain ⟨i, _, rfl⟩ := List.mem_map.mp hx
      obtain ⟨j, _, rfl⟩ := List.mem_map.mp hy
      rfl
    · obtain ⟨i, _, rfl⟩ := List.mem_map.mp hx
      exact fun z => nomatch z
  have dp : PyData.depthAll (ns.map .int) = 0 := by
    clear hr al dps q0 q hs rv hz
    induction ns with
    | nil => simp [PyData.depthAll]
    | cons n ns ih => simp [PyData.depthAll, PyData.depth, ih]
  refine PySem.W.min_list_default (I1.ok.hd hc) hl.isList (as := as) hr al (by omega) (fun e h' tk hk => ?_) fun y ys i v h' tk bs e hv rd hk => ?_
  · exact ⟨.non, H1, I1.kept hk, rfl, q0 (List.map_eq_nil_iff.mp e)⟩
  · cases ns with
    | nil => cases e
    | cons n ns =>
      rw [List.map_cons] at e
      cases e
      rw [PySem.W.minD_ints] at rd
      obtain ⟨t, rfl⟩ : ∃ t, v = .int (ns.foldl min n) t := by
        cases rd
        exact ⟨_, rfl⟩
      have h1 : ∀ (ns : List Int) (n : Int), ns.foldl min n ∈ n :: ns ∧ ∀ y ∈ n :: ns, ns.foldl min n ≤ y := by
        intro ns
        induction ns with
        | nil => intro n; exact ⟨List.mem_singleton.mpr rfl, fun y hy => by rw [List.mem_singleton.mp hy]; exact Int.le_refl _⟩
        | cons m ns ih =>
          intro n
          obtain ⟨a, b⟩ := ih (min n m)
          rw [List.foldl_cons]
          have c := b (min n m) (List.mem_cons_self)
          refine ⟨?_, fun y hy => ?_⟩
          · rcases List.mem_cons.mp a with a | a
            · rw [a]
              by_cases hle : n ≤ m
              · rw [Int.min_eq_left hle]; simp
              · rw [Int.min_eq_right (by omega)]; simp
            · simp [a]
          · rcases List.mem_cons.mp hy with rfl | hy
            · exact Int.le_trans c (Int.min_le_left _ _)
            · rcases List.mem_cons.mp hy with rfl | hy
              · exact Int.le_trans c (Int.min_le_right _ _)
              · exact b y (List.mem_cons_of_mem _ hy)
      exact ⟨.int _, H1, I1.kept hk, ⟨t, rfl⟩, q _ (h1 ns n).1 (h1 ns n).2⟩
end
end Wg

/-! Wagon, part 23: a comprehension over enumerate(tuple); the order of tuples that begin with numbers. -/
namespace Wg
open PySem PySem.Spec PyProof.Rows L2
def CEn (g : TG) (tt : TT) (te : TE) (vs : List Nat) (σ : L2.St) (Q : VK) (ws : List V) (H1 : Hp) : Prop := ∃ a xs, ws = [.ref a] ∧ Tup H1 a xs ∧ CB (Itn a xs) g tt te vs σ Q H1
theorem e_lcEn {K : PySem.W.Frag} {ta : TA} {g : TG} {tt : TT} {te : TE} {vs : List Nat} {σ : L2.St} {H : Hp} {Q : VK} : tLc (iEnumU K ta) g tt te vs σ H Q ↔ ta σ H (CEn g tt te vs σ Q) := Iff.rfl
theorem g_CEn {K : PySem.W.Frag} {g : TG} {tt : TT} {te : TE} {vs : List Nat} {σ : L2.St} {Q : VK} {H1 : Hp} {a : Addr} {us : List V} (ha : Tup H1 a us) (P : Nat → Hp → List V → Prop)
    (p0 : ∀ D H2, H1 D = none → Keep [] H1 H2 → P 0 H2 [])
    (ps : ∀ D i x H acc (R : VK) (R0 : Hp → Prop) T H', H1 D = none → us[i]? = some x → Keep [] H1 H' → H' D = some (.lst acc) → Keep [] H H' → P i H acc → H' T = some (.tup [.int (i : Nat), x]) →
      (∀ z H4, Keep [] H' H4 → acc.length < sizeLine → (∀ H5, Keep [D] H4 H5 → P (i + 1) H5 (acc ++ [z])) → R z H4) → (∀ H3, Keep [] H' H3 → P (i + 1) H3 acc → R0 H3) →
      g (.ref T) (wipe σ vs) H' fun σ2 H2 => wipe σ2 vs = wipe σ vs ∧ tt σ2 H2 fun bb H3 => if bb = true then te σ2 H3 R else R0 H3)
    (pd : ∀ D H acc, H1 D = none → Keep [] H1 H → H D = some (.lst acc) → P us.length H acc → Q (.ref D) H) : CEn g tt te vs σ Q [.ref a] H1 := by
  refine ⟨a, us, rfl, ha, fun D hD => ?_⟩
  refine ⟨fun i m H => m = us.length - i ∧ i ≤ us.length ∧ Keep [] H1 H ∧ ∃ acc, H D = some (.lst acc) ∧ P i H acc, ⟨us.length, by omega, by omega, Keep.new hD, [], upd_same, p0 D _ hD (Keep.new hD)⟩, ?_⟩
  rintro i m H ⟨rfl, hi, k, acc, eD, p⟩
  have ta := ha.keep k nin0
  by_cases hlt : i < us.length
  · have hx := List.getElem?_eq_getElem hlt
    refine .inr ⟨⟨hlt, ta⟩, fun H' => i + 1 ≤ us.length ∧ Keep [] H1 H' ∧ ∃ acc, H' D = some (.lst acc) ∧ P (i + 1) H' acc, fun H' q => ⟨us.length - (i + 1), by omega, rfl, q⟩, fun v H' y => ?_⟩
    obtain ⟨T, x', rfl, hT, rfl, f1⟩ := y
    have kn : Keep [] H (upd H T (.tup [.int (i : Nat), x'])) := Keep.new hT
    refine ps D i x' H acc _ _ T _ hD f1 (k.trans kn) (kn _ _ nin0 eD) kn p upd_same (fun z H4 k4 hz q => ⟨acc, k4 _ _ nin0 (kn _ _ nin0 eD), hz, hlt, (k.trans (kn.trans k4)).past Keep.set hD, _, upd_same, q _ Keep.set⟩) fun H3 k3 q => ⟨hlt, k.trans (kn.trans k3), acc, k3 _ _ nin0 (kn _ _ nin0 eD), q⟩
  · have e : i = us.length := by omega
    subst e
    exact .inl ⟨⟨rfl, ta⟩, pd D H acc hD k eD p⟩
theorem lt_of_head {a b : Int} {r r' : List PyData} (h : a < b) : PySem.W.dataLt (.tuple (.int a :: r)) (.tuple (.int b :: r')) = true := by
  unfold PySem.W.dataLt
  simp only [PySem.W.keyToks, PySem.W.keyToksAll, List.cons_append, List.nil_append]
  simp [PyProof.Rows.lexLt, PyProof.Rows.itemOrd]
  refine .inr ⟨by decide, .inl ?_⟩
  simp [PyProof.Rows.itemLt, h]
theorem nlt_of_head {a b : Int} {r r' : List PyData} (h : b < a) : PySem.W.dataLt (.tuple (.int a :: r)) (.tuple (.int b :: r')) = false := by
  have h1 := lt_of_head (r := r') (r' := r) h
  cases e : PySem.W.dataLt (.tuple (.int a :: r)) (.tuple (.int b :: r')) with
  | false => rfl
  | true =>
    have h2 := (PyProof.Rows.listOrd PyProof.Rows.itemOrd).trans (PySem.W.keyToks (.tuple (.int b :: r'))) (PySem.W.keyToks (.tuple (.int a :: r))) (PySem.W.keyToks (.tuple (.int b :: r'))) h1 e
    have h3 := (PyProof.Rows.listOrd PyProof.Rows.itemOrd).irrefl (PySem.W.keyToks (.tuple (.int b :: r')))
    exact Bool.noConfusion (h3.symm.trans h2)
end Wg

/-! Wagon, part 24: len(set(xs)) of a list of texts, none told twice. -/
namespace Wg
open PySem PySem.Spec PyProof.Rows L2
section
variable {P : Program} {w : World} {A : Around} {R : Result → Shared → Prop} {it : Addr} {near own : List Addr} {G : Array GenState → Array GenState → Prop} {n : Nat} {Pv : Nat → Value → Prop} {St : Nat → Shared → Prop}
variable {K : Type} [DecidableEq K] [BEq K] [LawfulBEq K] {kd : KeyKind P w K}
theorem nodup_next {ks : List K} (nd : ks.Nodup) {i : Nat} (h : i < ks.length) : ks[i] ∉ ks.take i := fun hm => by
  obtain ⟨j, hj, e⟩ := List.getElem_of_mem hm
  rw [List.length_take] at hj
  rw [List.getElem_take] at e
  exact List.pairwise_iff_getElem.mp nd j i (by omega) h (by omega) e
/-- what set.update does over what walks through keys of one kind, none twice -/
theorem put_all (W : WalksS P w A.in1 it near own G n Pv St) {c : Addr} (hc : c ∉ near) {ks : List K} (hl : ks.length = n) (nd : ks.Nodup) (few : n + 1 < scanBound)
    (hv : ∀ i v, Pv i v → ∃ h : i < ks.length, kd.is ks[i] v = true ∧ v.scannable = true) :
    ∀ (m i : Nat), i + m = n → ∀ s : Shared, St i s → s.heap.SetOf kd c (fun k => decide (k ∈ ks.take i)) i →
      (∀ s', Moved (c :: own) G s s' → s'.heap.SetOf kd c (fun k => decide (k ∈ ks)) n → R (.ok (.ret .none)) s') →
      codeAny (model P w) A (.builtin "set.update.loop" ⟨[.ref c, .ref it], []⟩) R s := by
  have nc : c ∉ own := fun h => hc (W.sub c h)
  have up : ∀ {h h' : Heap} {S : K → Bool} {q : Nat}, h.SetOf kd c S q → (∀ o, h.get? c = some o → h'.get? c = some o) → h'.SetOf kd c S q := fun x k => by
    obtain ⟨o, es, ep, t, ho, x⟩ := x
    exact ⟨o, es, ep, t, k o ho, x⟩
  intro m
  induction m with
  | zero =>
    intro i e s st hS fin
    have e : i = n := e
    subst e
    refine codeAny_builtin PyProof.Rows.F.entry_set_update_loop ?_
    rw [Around.under_plainId PyProof.Rows.F.plain_set_update_loop]
    refine wpAny_bind (m := pyNext (.ref it)) (W.done s _ _ st fun s' mv => wpAny_pure (fin s' (mv.mono fun _ h => .tail _ h) ?_))
    have := up hS fun o ho => mv.heap c o nc ho
    have all : ks.take i = ks := by rw [← hl, List.take_length]
    simpa only [all] using this
  | succ m ih =>
    intro i e s st hS fin
    refine codeAny_builtin PyProof.Rows.F.entry_set_update_loop ?_
    rw [Around.under_plainId PyProof.Rows.F.plain_set_update_loop]
    refine wpAny_bind (m := pyNext (.ref it)) (W.item i s _ _ (by omega) st fun v s1 pv st1 mv => ?_)
    obtain ⟨hi, hk, sc⟩ := hv i v pv
    refine wpAny_bind (m := holding [v] (setAdd c v)) (wpAny_holding ?_)
    unfold setAdd
    refine wpAny_holding (wpAny_bind (kd.pyHash hk ?_))
    refine wpAny_setAddHashed_of (s := { s1 with toks := s1.toks + 1 }) hk sc (up hS fun o ho => mv.heap c o nc ho) (by omega) fun h2 same hS2 => ?_
    have no := nodup_next nd hi
    rw [if_neg (by rw [decide_eq_true_eq]; exact no)] at hS2
    have hS3 : h2.SetOf kd c (fun k => decide (k ∈ ks.take (i + 1))) (i + 1) := by
      refine PyProof.Rows.SetOf_congr hS2 (fun k => ?_) rfl
      rw [List.take_succ, List.getElem?_eq_getElem hi]
      simp only [Option.toList_some, List.mem_append, List.mem_singleton, Bool.decide_or]
    refine wpAny_pure ⟨plainId_quiet PyProof.Rows.F.plain_set_update_loop _, ih (i + 1) (by omega) _ (W.frame _ s1 _ _ st1 (Nat.le_succ _) fun b hb o ho => ?_) hS3 fun s2 mv2 hS4 => ?_⟩
    · rw [same.2 b fun x => hc (x ▸ hb)]
      exact ho
    · refine fin s2 (Moved.trans W.gtrans ((mv.mono fun _ h => .tail _ h).then_heap (Nat.le_succ _) fun b o hb ho => ?_) mv2) hS4
      rw [same.2 b fun x => hb (x ▸ .head _)]
      exact ho
end
section
variable {P : Program} {w : World} {A : Around} {E : Value → Shared → Prop} {s : Shared} {K : Type} [DecidableEq K] [BEq K] [LawfulBEq K] {kd : KeyKind P w K}
theorem set_of {l : Addr} {vs : Array Value} {ks : List K} {Q : Value → Shared → Prop} (hh : A.handled = none) (hl : s.heap.IsList l vs) (hn : ks.length = vs.size) (nd : ks.Nodup) (few : vs.size + 1 < scanBound)
    (hv : ∀ (i : Nat) (v : Value), vs[i]? = some v → ∃ h : i < ks.length, kd.is ks[i] v = true ∧ v.scannable = true)
    (q : ∀ (h : Heap) (t : Nat), h.SetOf kd s.heap.objs.size (fun k => decide (k ∈ ks)) vs.size → (∀ b o, b < s.heap.objs.size → s.heap.get? b = some o → h.get? b = some o) → Q (.ref s.heap.objs.size) { s with heap := h, toks := t }) :
    wpAny (model P w) A (call (.type "set") [.ref l]) Q E s := by
  obtain ⟨cl, rest, hmro⟩ := PySem.F.called_set.mro
  have f1 := PySem.F.called_set.made
  have f2 := PySem.F.called_set.sub
  have f3 := PySem.F.called_set.notType
  have f4 := PySem.F.called_set.canCreate
  have f5 := PySem.F.typeCall_set_1 (.ref l)
  have f6 := PySem.F.called_set.init.lookup
  have f7 := PySem.F.called_set.init.bind (.ref s.heap.objs.size)
  refine wpAny_call (codeAny_of_tree ?_)
  change wpAny _ _ (callAny (.type "set") _) _ _ _
  refine wpAny_pure ⟨Code.quiet_builtin _ (by decide +kernel), codeAny_builtin PySem.F.entry_type_call ?_⟩
  rw [Around.under_plain (weight_type_call_type "set" [.ref l] []) rfl]
  repeat (any_goals (first | assumption | wp_step))
  refine codeAny_mono (code_set_new_1 (.ref l) (E := E) (Q₁ := fun r s1 => ∃ b : Bool, r = .ref s.heap.objs.size ∧ s1 = { s with heap := s.heap.push { cls := .type "set", dict := none, data := .set #[] 0 (.fresh 0 0 b) } }) fun b => ⟨b, rfl, rfl⟩) fun r s1 hr => ?_
  rcases r with x | fl
  · exact hr
  cases fl with
  | ret r =>
    obtain ⟨b, rfl, rfl⟩ := hr
    have at0 : (s.heap.push { cls := .type "set", dict := none, data := .set #[] 0 (.fresh 0 0 b) }).get? s.heap.objs.size = some { cls := .type "set", dict := none, data := .set #[] 0 (.fresh 0 0 b) } := Heap.get?_push_size _ rfl
    have ty0 : Shared.TypeIs { s with heap := s.heap.push { cls := .type "set", dict := none, data := .set #[] 0 (.fresh 0 0 b) } } (.ref s.heap.objs.size) "set" := ⟨_, at0, rfl⟩
    repeat (any_goals (first | assumption | wp_step))
    refine codeAny_mono (codeAny_call_builtin (R := wants (fun r s2 => r = .none ∧ ∃ h t, s2 = { s with heap := h, toks := t } ∧ h.SetOf kd s.heap.objs.size (fun k => decide (k ∈ ks)) vs.size ∧
      ∀ b o, b < s.heap.objs.size → s.heap.get? b = some o → h.get? b = some o) E) PySem.F.called_set.init.plain PySem.F.entry_set_init (check_set_init_1 ty0 ?_)) fun r2 s2 hr2 => ?_
    · obtain ⟨⟨kc, kd1, kdat, ksl⟩, g1, g2, nl, g3⟩ := hl
      simp only at g2 g3
      subst g2 g3
      have t1 := PySem.F.sub_list_set
      have t2 := PySem.F.sub_list_frozenset
      have t3 : (Value.type "list" == Value.type "dict") = false := by decide
      have g4 := Heap.get?_push_of_some ({ cls := .type "set", dict := none, data := .set #[] 0 (.fresh 0 0 b) } : Obj) g1
      have here : (s.heap.push { cls := .type "set", dict := none, data := .set #[] 0 (.fresh 0 0 b) }).IsList l vs := ⟨_, g4, rfl, nl, rfl⟩
      have low : l < s.heap.objs.size := Heap.lt_size g1
      unfold Builtin.«set.__init__» noKeywords Builtin.Frozenset.updateFrom
      generalize hpy : pyIter = py
      wp_walk
      subst hpy
      refine wpAny_pyIter_list here (wpAny_bind (wpAny_runValue ?_))
      have sz : (s.heap.push { cls := .type "set", dict := none, data := .set #[] 0 (.fresh 0 0 b) }).objs.size = s.heap.objs.size + 1 := Heap.size_push _ _
      have apart : l ≠ s.heap.objs.size + 1 := Nat.ne_of_lt (Nat.lt_succ_of_lt low)
      have own : s.heap.objs.size ≠ s.heap.objs.size + 1 := Nat.ne_of_lt (Nat.lt_succ_self _)
      have quiet : A.in1.in1.in1.handled = none := by simp [hh]
      refine put_all (kd := kd) ((Walks.list quiet _ l (by rw [sz]; exact apart) vs).toS) (c := s.heap.objs.size) (by rw [sz]; simp only [List.mem_cons, List.not_mem_nil, or_false]; exact fun x => x.elim own (Nat.ne_of_gt low)) hn nd few hv vs.size 0 (by omega) _
        ⟨⟨_, Heap.get?_push_size _ rfl, rfl, rfl⟩, here.push _⟩ ?_ fun s2 mv hS => ?_
      · exact PyProof.Rows.SetOf_congr ((PyProof.Rows.setObjOf_fresh (knd := kd) b).setOf (Heap.get?_push_of_some _ at0) (by unfold scanBound; omega)) (fun k => by simp) rfl
      · obtain ⟨h2, gg, dd, tt, oo⟩ := s2
        obtain rfl : gg = s.gens := mv.gens
        obtain rfl : dd = s.drawn := mv.drawn
        obtain rfl : oo = s.os := mv.os
        refine wpAny_pure (wpAny_pure ⟨rfl, h2, tt, rfl, hS, fun a o ha ho => mv.heap a o ?_ (Heap.get?_push_of_some _ (Heap.get?_push_of_some _ ho))⟩)
        rw [sz]
        simp only [List.mem_cons, List.not_mem_nil, or_false]
        exact fun x => x.elim (Nat.ne_of_lt ha) (Nat.ne_of_lt (Nat.lt_succ_of_lt ha))
    · rcases r2 with x | f2
      · exact hr2
      cases f2 with
      | ret r =>
        obtain ⟨rfl, h, t, rfl, hS, old⟩ := hr2
        repeat (any_goals (first | assumption | wp_step))
        exact q _ _ hS old
      | _ => exact hr2.elim
  | _ => exact hr.elim
end
section
variable {X : Cx}
theorem text_at : ∀ {xs : List Str} {vs : List Value}, Vals (xs.map V.str) vs → ∀ (i : Nat) (v : Value), vs[i]? = some v → ∃ h : i < xs.length, (strKind X.prog X.w).is xs[i] v = true ∧ v.scannable = true
  | [], _, .nil, i, v, h => by simp at h
  | x :: xs, _, .cons r _, 0, v, h => by
    obtain ⟨t, rfl⟩ := r
    obtain rfl : Value.str x t = v := Option.some.inj h
    exact ⟨Nat.succ_pos _, strKind_is _ _ _ _, rfl⟩
  | x :: xs, _, .cons _ t, i + 1, v, h => by
    obtain ⟨g, q⟩ := text_at t i v h
    exact ⟨Nat.succ_lt_succ g, q⟩
def tLenTexts (K : PySem.W.Frag) (ta : TE) : TE := fun σ H Q => ta σ H fun x H1 => ∃ (l : Addr) (xs : List Str), x = V.ref l ∧ SqL K H1 l (xs.map V.str) ∧ xs.Nodup ∧ xs.length < 64 ∧ Q (.int xs.length) H1
theorem pe_lenTexts {a : Expr} {ta : TE} {p p2 q pos : Pos} (calm : X.calm = true) (g1 : Gl X "len") (m1 : X.mg "len" = none) (g2 : Gl X "set") (m2 : X.mg "set" = none) (pa : PE X a ta)
    (each : starEach [a] X.env = (false, eval a X.env) :: starEach [] X.env := by rfl) : PE X (.Call (.Name "len" p) [.Call (.Name "set" p2) [a] [] q] [] pos) (tLenTexts X.K ta) := by
  refine ⟨fun pins s σ H Q I h => Call_ (ld_blt I g1 m1 boot_len (PyProof.Rows.callWith_builtin1 (PyProof.Rows.args_cons ?_ rfl) rfl rfl))⟩
  refine Call_ (ld_blt I g2 m2 boot_set (PyProof.Rows.callWith_type1 (PyProof.Rows.args_cons (thn (pa.run pins s σ H _ I h) fun v s1 ⟨x, H1, J, r, hx⟩ => PyProof.Rows.args_nil ?_) each) each rfl))
  obtain ⟨l, xs, rfl, sq, nd, few, hx⟩ := hx
  cases r
  obtain ⟨vs, rv, lv, _⟩ := J.list sq
  have sz : xs.length = vs.toArray.size := by rw [List.size_toArray, ← rv.length, List.length_map]
  refine set_of (kd := strKind X.prog X.w) (J.ok.hd calm) lv.isList sz nd (by unfold scanBound; omega) (fun i v e => text_at rv i v (by simpa using e)) fun h2 t hS old => PyProof.Rows.args_nil ?_
  obtain ⟨o, es, ep, tb, ho, ex, hd, _, _, _, fit, hn⟩ := hS
  rw [← sz] at hn
  exact call_len_set ho ex hd fit (by rw [hn]; omega) ⟨.int xs.length, H1, (J.kept fun b o e => old b o (Heap.lt_size e) e).tok _, ⟨_, by rw [hn]⟩, hx⟩
end
section
/-- sorted(d) of a dict whose keys are texts -/
def uSortD : List V → Hp → VK → Prop := fun xs H Q => ∃ (a : Addr) (kvs : List (Key × V)) (ks : List Str), xs = [.ref a] ∧ H a = some (.dK kvs) ∧ kvs.map (·.1) = ks.map Sum.inr ∧ ks.length < 64 ∧
  ∀ ys, ys.Perm ks → sortedS ys = true → Mk H (.lst (ys.map V.str)) Q
theorem call_uSortD {X : Cx} (hc : X.calm = true) : CallR X (.builtin "sorted") uSortD := by
  intro pins s σ H xs us Q I r h
  obtain ⟨a, kvs, ks, e, ha, hk, hl, q⟩ := h
  exact call_sortedD hc pins s σ H xs us Q I r ⟨a, kvs, ks, e, .inl ha, hk, hl, fun ys p h1 h2 n => q ys h1 h2 p _ n (Keep.new n) upd_same⟩
theorem lt_tri {a b : Str} (h1 : ltCps a.cps.toList b.cps.toList = false) (h2 : ltCps b.cps.toList a.cps.toList = false) : a = b := by
  rw [ltCps_eq, decide_eq_false_iff_not] at h1 h2
  have e : a.cps.toList = b.cps.toList := List.le_antisymm (List.not_lt.mp h2) (List.not_lt.mp h1)
  obtain ⟨a⟩ := a
  obtain ⟨b⟩ := b
  have e2 : a.toList = b.toList := e
  rw [Array.toList_inj.mp e2]
theorem rising_pw : ∀ (l : List Str) (p : Str), risingS p l = true → (p :: l).Pairwise fun a b => ltCps b.cps.toList a.cps.toList = false
  | [], p, _ => List.pairwise_singleton _ _
  | x :: l, p, h => by
    have h' : (!ltCps x.cps.toList p.cps.toList && risingS x l) = true := h
    rw [Bool.and_eq_true, Bool.not_eq_true'] at h'
    have ih := rising_pw l x h'.2
    refine List.pairwise_cons.mpr ⟨fun y hy => ?_, ih⟩
    rcases List.mem_cons.mp hy with rfl | hy
    · exact h'.1
    · have h2 := (List.pairwise_cons.mp ih).1 y hy
      have h1 := h'.1
      rw [ltCps_eq, decide_eq_false_iff_not] at h1 h2 ⊢
      exact List.not_lt.mpr (List.le_trans (List.not_lt.mp h1) (List.not_lt.mp h2))
theorem sort_pw : ∀ {l : List Str}, sortedS l = true → l.Pairwise fun a b => ltCps b.cps.toList a.cps.toList = false
  | [], _ => .nil
  | x :: l, h => rising_pw l x h
theorem sort_one {xs ys : List Str} (h1 : xs.Pairwise fun a b => ltCps b.cps.toList a.cps.toList = false) (h2 : sortedS ys = true) (p : ys.Perm xs) : ys = xs :=
  List.Perm.eq_of_pairwise (fun a b _ _ x y => lt_tri y x) (sort_pw h2) h1 p
end
end Wg

/-! Wagon, part 26: own classes: C(e, ..), o.m(e, ..), by promises of the kind Keeps. -/
namespace Wg
open PySem PySem.Spec PyProof.Rows L2
section
variable {X : Cx} {CX : CXT} {k : Nat} {C f : Addr} {fd : FuncData} {ps : List Str} {sp : Sp} {E : XK} {x m : Str} {p pos apos : Pos} {o e : Expr} {es : List Expr} {ta : TE} {t : TA}
/-- what a call of a class asks: two new places, the instance and its dict -/
def MadeAt (sp : Sp) (E : XK) (C : Addr) (vs : List V) (H : Hp) (Q : VK) : Prop :=
  ∀ i d, H i = none → H d = none → d ≠ i → sp (.ref i :: vs) (upd (upd H d (.own i)) i (.ins C d [])) (fun v H' => v = .non ∧ Q (.ref i) H') E
theorem made_go {pins : List (Addr × Obj)} {σ : L2.St} {H : Hp} {s : Shared} {Q : VK} {us : List Value} {vs : List V}
    (M : L2.Mk X.K C f) (F : Keeps X.prog X.w X.K X.mg X.base CX k f fd ps sp) (hr : Rm (k + 1) X.A) (hb : Binds X.K fd ps []) (hx : Passes CX X E)
    (I : Inv X pins σ H s) (r : Vals vs us) (h : MadeAt sp E C vs H Q) : wpAny (model X.prog X.w) X.A (call (.ref C) us) (EP X pins σ Q) X.xe s := by
  let i : Addr := s.heap.objs.size + 1
  let d : Addr := s.heap.objs.size
  have g : sp (.ref i :: vs) _ _ _ := h i d (I.hok.fresh (Nat.le_succ _)) (I.hok.fresh (Nat.le_refl _)) (Nat.ne_of_lt (Nat.lt_succ_self _))
  have J := Inv.made (C := C) I
  have rr : Vals (V.ref i :: vs) (Value.ref i :: us) := .cons rfl r
  have len : ((Value.ref i :: us) ++ []).length = ps.length := by
    rw [List.append_nil, ← rr.length]
    exact F.len _ _ _ _ g
  have bd := hb _ (Value.ref i :: us) J.kIn len
  rw [List.append_nil] at bd
  have go := F.run _ X.stack _ _ ⟨Value.ref i :: us, []⟩ (Value.ref i :: us) _ _ E ⟨hr.rm.make C us [], hr.gd⟩ (J.env0.make C us []) bd rr g
  refine wpAny_call ?_
  refine make_map (f := f) I.kIn M.makes M.init (beq_iff_eq.mp M.fn) ?_
  refine codeAny_mono go fun res s' hq => ?_
  match res, hq with
  | .error u, hq => exact hx pins σ _ _ u s' J hq
  | .ok (.ret u), hq =>
    obtain ⟨v, H', J', rv, rfl, q⟩ := J.after hq
    exact ⟨rv, V.ref (s.heap.objs.size + 1), H', J', rfl, q⟩
  | .ok .next, hq => exact hq.elim
  | .ok .brk, hq => exact hq.elim
  | .ok .cont, hq => exact hq.elim
/-- C(e, ..), C an own class -/
def tNewC (sp : Sp) (E : XK) (C : Addr) (t : TA) : TE := fun σ H Q => t σ H fun vs H1 => MadeAt sp E C vs H1 Q
theorem pe_newC (M : L2.Mk X.K C f) (F : Keeps X.prog X.w X.K X.mg X.base CX k f fd ps sp) (hr : Rm (k + 1) X.A) (hg : Gl X x) (hm : X.mg x = some (.ref C)) (hb : Binds X.K fd ps []) (hx : Passes CX X E) (ha : PA X (e :: es) t)
    (hdb : (x == ("__debug__" : Str)) = false := by decide) (he : starEach (e :: es) X.env = (false, eval e X.env) :: starEach es X.env := by rfl) (hpl : (backTo pos (starEach es X.env)).any (·.1) = false := by rfl) :
    PE X (.Call (.Name x p) (e :: es) [] pos) (tNewC sp E C t) := by
  constructor
  intro pins s σ H Q I h
  have args := ha.run pos pins s σ H _ I h
  refine wpAny_Call_Name_kw (ld_glob I hg hm (PySem.W.callWith_K (h₀ := X.base) I.ok.mod.kin M.kp (thn args fun us s1 hh => ?_) he hpl) hdb)
  obtain ⟨vs, H1, J, r, q⟩ := hh
  exact ⟨J.kIn, made_go M F hr hb hx J r q⟩
/-- o.m(e, ..), m a method of an own class -/
def tMth (C : Addr) (m : Str) (sp : Sp) (E : XK) (ta : TE) (t : TA) : TE := fun σ H Q => ta σ H fun x H1 => ∃ a d fs, x = .ref a ∧ H1 a = some (.ins C d fs) ∧ fs.lookup m = none ∧ t σ H1 fun vs H2 => sp (x :: vs) H2 Q E
theorem pe_mth {pl : Sem Bool} (ho : PE X o ta) (c : Cls X.K C) (hm : Meth X.K C m f) (F : Keeps X.prog X.w X.K X.mg X.base CX k f fd ps sp) (hr : Rm k X.A) (hb : Binds X.K fd ps []) (hx : Passes CX X E) (ha : PA X (e :: es) t)
    (hst : starEach (e :: es) X.env = (false, eval e X.env) :: starEach es X.env := by rfl) (hpl : (backTo pos (starEach es X.env)).any (·.1) = false := by rfl)
    (ht : eval (.Call (.Attribute o m apos) (e :: es) [] pos) X.env = (do
      let ov ← eval o X.env
      standAt apos.atName
      let (f, first) ← holding [ov] (getMethod ov m pl)
      callWith pos f first (backTo pos (starEach (e :: es) X.env)) (backToKw pos (keywordEach [] X.env))) := by rfl) :
    PE X (.Call (.Attribute o m apos) (e :: es) [] pos) (tMth C m sp E ta t) := by
  constructor
  intro pins s σ H Q I h
  have self := ho.run pins s σ H _ I h
  refine PySem.W.methodCall_KW (pl := pl) (thn self fun u s1 hh => ?_) ht
  obtain ⟨y, H1, J, ry, a, d, fs, rfl, ea, l, q⟩ := hh
  cases ry
  have args := ha.run pos pins s1 σ H1 _ J q
  refine getmeth_ok J ea c hm l (PySem.W.callWith_K (first := [.ref a]) (h₀ := X.base) I.ok.mod.kin hm.kp (thn args fun us s2 hh => ?_) hst hpl)
  obtain ⟨vs, H2, J2, r, q2⟩ := hh
  exact ⟨J2.kIn, go_fn (us := .ref a :: us) (vs := .ref a :: vs) F hr hb hx J2 (.cons rfl r) q2⟩
end
end Wg

/-! Wagon, part 27: d.update(e) of two dicts; methods by qualified names. -/
namespace Wg
open PySem PySem.Spec PyProof.Rows L2
section
variable {X : Cx}
def uUpd : V → List V → Hp → VK → Prop := fun x vs H Q => ∃ a b kvs more, x = .ref a ∧ vs = [.ref b] ∧ a ≠ b ∧ H a = some (.dK kvs) ∧ H b = some (.dK more) ∧ kvs.length + more.length ≤ sizeLine ∧ Ch H a (.dK (mergeK kvs more)) (Q .non)
theorem mt_uUpd : MtR X "dict.update" uUpd := by
  intro pins s σ H x vs v us Q I rx rv h
  obtain ⟨a, b, kvs, more, rfl, rfl, ne, ha, hb, few, q⟩ := h
  cases rx
  obtain ⟨u, rfl, ru⟩ := vals1 rv
  obtain rfl : u = Value.ref b := ru
  obtain ⟨z1, y1, ws, r1, d1⟩ := dk_of I.hok ha
  obtain ⟨z2, y2, ms, r2, d2⟩ := dk_of I.hok hb
  refine call_meetsIn PySem.F.slot_dict_update d1.typeIs PySem.F.entry_dict_update (PySem.F.args_dict_update_2 _ _) (meets_dict_update (mixKind X.prog X.w) a b ne y2) ⟨ws, ms, d1, d2, by rw [← r1.length, ← r2.length]; exact few, fun h2 dd _ same => ?_⟩
  have fits : (mergeK kvs more).length ≤ sizeLine := Nat.le_trans (length_mergeK more kvs) few
  have there : ∃ o, h2.get? a = some o := let ⟨o, _, _, ho, _⟩ := dd; ⟨o, ho⟩
  exact ⟨.non, upd H a (.dK (mergeK kvs more)), d_write (t' := s.toks) I (by rw [ha]; trivial) same there (dk_new fits y1 (r2.merge r1) dd), rfl, q.at⟩
end
structure FnM (K : PySem.W.Frag) (x qual : Str) (st : Stmt) (f : Addr) (fd : FuncData) (ps : List Str) : Prop where
  fn : Fun K x qual st f fd
  b : Binds K fd ps []
end Wg

/-! Wagon, part 28: a comprehension within a comprehension that reads names of it. -/
namespace Wg
open PySem PySem.Spec PyProof.Rows L2
theorem rel_seen {f : NameKind → Str → NameKind} (hf : ∀ k x, k = .cell ∨ k = .free → f k x = .cell ∨ f k x = .free) : ∀ {l : List (Str × NameKind)} {x : Str}, l.lookup x = some .cell ∨ l.lookup x = some .free →
    (l.map fun p => (p.1, f p.2 p.1)).lookup x = some .cell ∨ (l.map fun p => (p.1, f p.2 p.1)).lookup x = some .free
  | [], _, h => by simp at h
  | (n, k) :: l, x, h => by
    rw [List.map_cons, List.lookup_cons]
    rw [List.lookup_cons] at h
    cases e : x == n with
    | true =>
      rw [e] at h
      simp only [Option.some.injEq] at h
      have := hf k n h
      simpa using this
    | false =>
      rw [e] at h
      exact rel_seen hf h
theorem blkOk_in {N : List Str} {sc scope : Scope} {env : Env} {own : List (Str × Nat)} (h : blkC N sc scope own = true) : BlkOk N (relabel sc env) scope own := by
  have b := blkOk_by h
  refine ⟨b.kind, b.uniq, b.ix, fun y hy e => ?_, b.own⟩
  have := rel_seen (f := fun k n => if (k == NameKind.free && env.scope.kind == .function && env.kindOf n == some .cell) then .cell else k) (fun k x h => by
    split
    · exact .inl rfl
    · exact h) (b.free y hy e)
  have eq : (relabel sc env).names = sc.names.map fun p => (p.1, if (p.2 == NameKind.free && env.scope.kind == .function && env.kindOf p.1 == some .cell) then NameKind.cell else p.2) := by
    unfold relabel
    refine List.map_congr_left fun p _ => ?_
    obtain ⟨n, k⟩ := p
    show (if _ then _ else _) = _
    split <;> rfl
  rw [eq]
  exact this
end Wg

/-! Wagon, part 29: displays with [*xs, y]: HandS.Star; in, not in over data: HandS.Deep. -/
namespace Wg
open PySem PySem.Spec PyProof.Rows L2
theorem un65 {k : Nat} {A : Around} (hr : Rm k A) : A.units + 65 < cLine := by
  have := hr.rm.un
  omega
theorem g_FR2 {g : TG} {tb : TS} {D : Ends} {σ : L2.St} {H1 : Hp} {i0 j : Int} (b1 : -(2 ^ 62) ≤ i0) (b2 : i0 < 2 ^ 62) (b3 : -(2 ^ 62) ≤ j) (b4 : j < 2 ^ 62) (h : Loop (j - i0).toNat (fun i => .int (i0 + (i : Nat))) g tb D σ H1) : FR2 g tb D σ [.int i0, .int j] H1 := by
  obtain ⟨Pv, p0, ps, pd⟩ := h
  exact ⟨i0, j, rfl, ⟨b1, b2, b3, b4⟩, for_range (lo := i0) (n := (j - i0).toNat) Pv p0 (fun i σ H hi p => ps i σ H hi p) pd⟩
end Wg

/-! Wagon, part 30: all and any of a generator expression whose element is any expression. -/
namespace Wg
open PySem PySem.Spec PyProof.Rows L2

/-- the context of a generator expression's frame: it began at s; fp: its iterator's objects -/
abbrev gx (X : Cx) (s : Shared) (H : Hp) (ce : Env) (A : Around) (fp : List Addr) : Cx :=
  { X with s_0 := s, H_0 := H, env := ce, outer := X.stack, stack := ce :: X.stack, A := A, ex := fp, fn := fun _ => false, pn := [], xe := fun _ _ => False }
/-- the scope of a generator expression -/
structure GenOk (N : List Str) (sc scope : Scope) (own : List (Str × Nat)) : Prop where
  b : BlkOk N sc scope own
  noc : ∀ y ∈ scope.names, y.2 ≠ .cell
  dot : scope.names.lookup (".0" : Str) = some NameKind.local
  co : scope.isCoroutine = false
abbrev gEnv (X : Cx) (scope : Scope) (C : Addr) (code : Value) : Env := genEnv scope (cloFrom X.env.cells scope.names []) C code builtinsNs X.env
section
variable {X : Cx} {pins : List (Addr × Obj)} {σ : L2.St} {H : Hp} {s : Shared}
theorem gen_free {scope : Scope} {own : List (Str × Nat)} (I : Inv X pins σ H s) (ok : GenOk X.N X.env.scope scope own) : ∀ y ∈ scope.names, y.2 = .free → ∃ c, X.env.cells.lookup y.1 = some c := fun y hy fr =>
  (ok.b.free y hy fr).elim (fun q => I.ok.has _ (.inl q)) fun q => I.ok.has _ (.inr q)
/-- the frame's beginning -/
theorem gen_start {scope : Scope} {own : List (Str × Nat)} {fp : List Addr} {code : Value} {A : Around} {m : Str → Option Value} {z : Shared} (I : Inv X pins σ H s) (ok : GenOk X.N X.env.scope scope own) (hN : X.N.Nodup)
    (hfp : ∀ b ∈ fp, FpOk X pins H b ∧ b < s.heap.objs.size) (hd : A.handled = none) (fr : A.frames = some (gEnv X scope s.heap.objs.size code :: X.stack)) (zo : z.os = s.os) (zb : AllBare z.gens) (zk : ∀ b o, s.heap.get? b = some o → z.heap.get? b = some o)
    (zc : z.heap.Ns s.heap.objs.size m) : Inv (gx X s H (gEnv X scope s.heap.objs.size code) A fp) [] (wipe σ (own.map (·.2))) H z := by
  have free := gen_free I ok
  have inClo : ∀ {y c}, (y, c) ∈ cloFrom X.env.cells scope.names [] → X.env.cells.lookup y = some c ∧ c < s.heap.objs.size := fun {y c} hm => by
    rcases cloFrom_mem hm with q | ⟨q, rfl⟩
    · cases q
    · obtain ⟨c, hc⟩ := free _ q rfl
      rw [hc]
      obtain ⟨w, x⟩ := I.cell _ _ hc
      exact ⟨rfl, x.lt⟩
  have inCl : ∀ {y c}, (cloFrom X.env.cells scope.names []).lookup y = some c → X.env.cells.lookup y = some c ∧ c < s.heap.objs.size := fun e => inClo (PySem.mem_of_lookup e)
  have find : ∀ {y}, scope.names.lookup y = some .free → ∃ c, (cloFrom X.env.cells scope.names []).lookup y = some c ∧ X.env.cells.lookup y = some c := fun {y} q => by
    obtain ⟨c, e⟩ := mem_lookup (cloFrom_has (cells := X.env.cells) (acc := []) (PySem.mem_of_lookup q))
    exact ⟨c, e, (inCl e).1⟩
  have noCell : ∀ {y}, scope.names.lookup y ≠ some .cell := fun q => ok.noc _ (PySem.mem_of_lookup q) rfl
  have OK : (gx X s H (gEnv X scope s.heap.objs.size code) A fp).Ok := by
    refine ⟨I.ok.mod, ok.b.kind, I.ok.glob, rfl, Nat.le_refl _, fun y u c e1 e2 => ?_, fun y hy => ?_, fun y c q => ?_, fun _ => hd, fr, .inr ⟨rfl, rfl⟩, fun b hb => ⟨?_, fun y c e q => ?_⟩, I.bs, Nat.le_trans I.ok.bsz I.sz, fun b o e hb => ?_, fun b hb q => ?_, I.stack, I.stkFree⟩
    · exact I.ok.inj y u c (inCl e1).1 (inCl e2).1
    · rcases hy with q | q
      · exact absurd q noCell
      · obtain ⟨c, e, _⟩ := find q
        exact ⟨c, e⟩
    · cases q
    · exact Nat.ne_of_lt (hfp b hb).2
    · exact (hfp b hb).1.2.2.2.2.1 y c (inCl e).1 q
    · rcases (hfp b hb).1.2.2.2.1 with q | q
      · exact I.ok.noex b o e q
      · exact absurd (Nat.lt_of_lt_of_le (Heap.lt_size e) (Nat.le_trans I.ok.bsz q)) (Nat.lt_irrefl _)
    · rcases List.mem_cons.mp (I.stkSub b q) with q | q
      · exact (hfp b hb).1.2.1 q
      · exact (hfp b hb).1.2.2.1 q
  refine ⟨OK, zo, zb, Un.kept zk, ⟨m, zc, fun i y v e1 e2 vis => ?_⟩, fun y c e => ?_, I.hok.fresh (Nat.le_refl _), fun y c e => I.freeC y c (inCl e).1, fun p hp => absurd (show p ∈ ([] : List (Addr × Obj)) ++ [] from hp) (by simp), I.hok.kept zk, by rw [wipe_length]; exact I.len⟩
  · obtain ⟨e2, hne⟩ := wipe_some e2
    have fr' : scope.names.lookup y = some .free := by
      have no : ∀ k, scope.names.lookup y = some k → (k = .local ∨ k = .cell) → False := fun k q h => by
        rcases ok.b.own _ (PySem.mem_of_lookup q) h with e | e
        · obtain ⟨p, hp, ep⟩ := List.mem_map.mp e
          have e3 := ok.b.ix p hp
          rw [show p.1 = y from ep] at e3
          exact hne (List.mem_map.mpr ⟨p, hp, nodup_ix hN e3 e1⟩)
        · exact e (List.mem_of_getElem? e1)
      rcases vis with q | q | q
      · exact (no _ q (.inl rfl)).elim
      · exact (no _ q (.inr rfl)).elim
      · exact q
    obtain ⟨m', hn, hl⟩ := I.loc
    have visX : Vis X.env.scope y := (ok.b.free _ (PySem.mem_of_lookup fr') rfl).elim (fun q => .inr (.inl q)) fun q => .inr (.inr q)
    obtain ⟨w, r, q⟩ := hl i y v e1 e2 visX
    obtain ⟨c, h1, h2⟩ := find fr'
    refine ⟨w, r, .inr ⟨.inr fr', ?_⟩⟩
    rcases q with ⟨k, _⟩ | ⟨_, c', e', x⟩
    · have k : X.env.scope.names.lookup y = some .local := k
      rcases ok.b.free _ (PySem.mem_of_lookup fr') rfl with k' | k' <;> rw [show X.env.scope.names.lookup y = _ from k'] at k <;> cases k
    · rw [h2] at e'
      cases e'
      exact ⟨c, h1, x.keeps zk⟩
  · obtain ⟨w, x⟩ := I.cell y c (inCl e).1
    exact ⟨w, x.keeps zk⟩
end

theorem over_gen {AS : Around} {elt tg iter : Expr} {ifs : List Expr} {scope : Scope} {pos : Pos} {x y : Value} {env : Env} : AS.over (.compLoop (.GeneratorExp elt [⟨tg, iter, ifs, 0⟩] scope pos) 0 x y env) [] = AS.deeper env := by
  first
    | rfl
    | (obtain ⟨hd, d, fr, gs, u⟩ := AS; simp [Around.over, Around.deeper, marksOver, frameCount, unitsOf, envsOf, guardsOf, pushEnvs, pushGuards, Code.envs, Code.env?, Code.isFrame, Code.guards, Code.weight, Code.frames, Code.isCreation, Code.isGuard, Code.isCaller, Code.cUnits]; cases fr <;> rfl)
theorem over_gen0 {AS : Around} {elt tg iter : Expr} {ifs : List Expr} {scope : Scope} {pos : Pos} {x y : Value} {env : Env} : AS.over (.compStart (.GeneratorExp elt [⟨tg, iter, ifs, 0⟩] scope pos) 0 x y env) [] = AS.deeper env := by
  first
    | rfl
    | (obtain ⟨hd, d, fr, gs, u⟩ := AS; simp [Around.over, Around.deeper, marksOver, frameCount, unitsOf, envsOf, guardsOf, pushEnvs, pushGuards, Code.envs, Code.env?, Code.isFrame, Code.guards, Code.weight, Code.frames, Code.isCreation, Code.isGuard, Code.isCaller, Code.cUnits]; cases fr <;> rfl)
/-- between two turns: what stood stands -/
structure Nap (s s' : Shared) : Prop where
  os : s'.os = s.os
  bare : AllBare s'.gens
  size : s.gens.size ≤ s'.gens.size
  keep : ∀ b o, s.heap.get? b = some o → s'.heap.get? b = some o
theorem inv_nap {X : Cx} {pins : List (Addr × Obj)} {σ : L2.St} {H : Hp} {s s' : Shared} (I : Inv X pins σ H s) (n : Nap s s') : Inv X pins σ H s' :=
  I.call' (ch := []) n.os (Un.kept n.keep) (I.hok.kept n.keep) n.bare fun b hb => absurd hb (by simp)
/-- what a turn begins with -/
structure AtTurn (G : Cx) (a : Addr) (ob : Obj) (g : Nat) (fp : List Addr) (tn : Nat → Heap → Prop) (σ : L2.St) (i : Nat) (H : Hp) (s : Shared) : Prop where
  inv : Inv G [(a, ob)] σ H s
  tn : tn i s.heap
  no : ∀ b ∈ fp, H b = none
  g : g < s.gens.size
/-- what a turn asks -/
def TurnW (J : It) (gg : TG) (tt : TT) (te : TE) (vs : List Nat) (σ : L2.St) (W : Nat → Nat → Hp → Prop) (Q : VK) (stop : Bool) : Prop := ∀ i m H, W i m H →
  (J.stop i H ∧ Q (.bl (!stop)) H) ∨ (J.go i H ∧ ∃ Nx : Hp → Prop, (∀ H', Nx H' → ∃ m', m' < m ∧ W (i + 1) m' H') ∧ ∀ x H', J.yld i H x H' → gg x (wipe σ vs) H' fun σ2 H2 => wipe σ2 vs = wipe σ vs ∧ tt σ2 H2 fun b H3 =>
    if b = true then te σ2 H3 fun y H4 => ∃ k, y = .bl k ∧ if k = stop then Q (.bl stop) H4 else Nx H4 else Nx H3)
/-- what is handed out, what is left at the end -/
def GnY (G : Cx) (a : Addr) (ob : Obj) (g : Nat) (fp : List Addr) (tn : Nat → Heap → Prop) (σ : L2.St) (W : Nat → Nat → Hp → Prop) (Q : VK) (stop : Bool) : Protocol := fun n _ v s kap =>
  (v = .bool stop ∧ ∃ σ' H', Inv G [(a, ob)] σ' H' s ∧ Q (.bl stop) H') ∨ (v = .bool (!stop) ∧ ∃ i m H', m < n ∧ AtTurn G a ob g fp tn σ i H' s ∧ W i m H' ∧ ∀ s', Nap s s' → kap (.send .none) s')
def GnR (G : Cx) (a : Addr) (ob : Obj) (σ : L2.St) (Q : VK) (stop : Bool) : GenEnd := fun _ _ r s => r = .ok .next ∧ ∃ H', Inv G [(a, ob)] σ H' s ∧ Q (.bl (!stop)) H'
theorem not_stop {k stop : Bool} (h : ¬ k = stop) : k = !stop := by
  cases k <;> cases stop <;> first | rfl | exact absurd rfl h
theorem gsz_thn {α : Type} {M : Model} {A : Around} {s : Shared} {t : Sem α} {Q Q' : α → Shared → Prop} {E : Value → Shared → Prop} {n : Nat} (hn : n ≤ s.gens.size) (h : wpAny M A t Q (fun _ _ => False) s) (k : ∀ a s', n ≤ s'.gens.size → Q a s' → Q' a s') : wpAny M A t Q' E s :=
  GenW.wpAny_gsz hn (wpAny_mono h (fun a s' q z => k a s' z q) fun _ _ z => False.elim z)
section
variable {G : Cx} {AS : Around} {elt tg iter : Expr} {ifs : List Expr} {scope : Scope} {pos : Pos} {it a : Addr} {ob : Obj} {g : Nat} {fp : List Addr} {tn : Nat → Heap → Prop} {J : It} {gg : TG} {tt : TT} {te : TE} {vs : List Nat} {σ : L2.St} {W : Nat → Nat → Hp → Prop} {Q : VK} {stop : Bool}
theorem seg_turns (ho : AS.deeper G.env = G.A) (hx : G.xe = fun _ _ => False) (hc : G.calm = true) (hpn : G.pn = []) (T : Turn G.prog G.w G.K tg J fp it tn) (hex : ∀ b ∈ fp, b ∈ G.ex) (hab : ∀ b ∈ fp, a ≠ b) (hco : G.env.scope.isCoroutine = false) (pg : PG G tg gg) (pt : PTs G ifs tt) (pe : PE G elt te)
    (turn : TurnW J gg tt te vs σ W Q stop) : ∀ (m n i : Nat) (H : Hp) (s₀ s : Shared), m < n → AtTurn G a ob g fp tn (wipe σ vs) i H s → W i m H →
      Seg (model G.prog G.w) AS (GnR G a ob (wipe σ vs) Q stop) (GnY G a ob g fp tn (wipe σ vs) W Q stop) n s₀ (.compLoop (.GeneratorExp elt [⟨tg, iter, ifs, 0⟩] scope pos) 0 (.ref it) .none G.env)
        ((model G.prog G.w).den (.compLoop (.GeneratorExp elt [⟨tg, iter, ifs, 0⟩] scope pos) 0 (.ref it) .none G.env)) [] s := by
  intro m
  induction m using Nat.strongRecOn with
  | ind m ih =>
    intro n i H s₀ s hmn at0 w
    have fpk : ∀ {σ' : L2.St} {H' : Hp} {s' : Shared}, Inv G [(a, ob)] σ' H' s' → (∀ b ∈ fp, H' b = none) → ∀ b ∈ fp, FpOk G [(a, ob)] H' b := fun {σ' H' s'} I' no b hb =>
      ⟨no b hb, (I'.ok.exf b (hex b hb)).1, I'.ok.exfs b (hex b hb), .inl (hex b hb), fun x c e => (I'.ok.exf b (hex b hb)).2 x c e, fun p hp => by
        rw [hpn] at hp
        rw [List.mem_singleton.mp (show p ∈ [(a, ob)] from hp)]
        exact hab b hb⟩
    show Seg _ AS _ _ _ s₀ _ ((compTurn (.GeneratorExp elt [⟨tg, iter, ifs, 0⟩] scope pos) 0 (.ref it) .none G.env).onRaise (leaving G.env)) [] s
    rw [compTurn_gen, Sem.onRaise_eq_wrap]
    refine seg_bind_wrap (wpAny_standAt ?_)
    rcases turn i m H w with ⟨st, q⟩ | ⟨go, Nx, hNx, step⟩
    · refine seg_bind_wrap ?_
      rw [over_gen, ho]
      have td := T.done G rfl rfl rfl hc i [(a, ob)] s (wipe σ vs) H (fun _ _ => False) at0.inv (fpk at0.inv at0.no) at0.tn st
      refine thnF td fun r s1 ⟨hr, I1⟩ => ?_
      subst hr
      exact seg_end (.ok .next) ⟨rfl, H, I1, q⟩
    · refine seg_bind_wrap ?_
      rw [over_gen, ho]
      have ti := T.item G rfl rfl rfl hc i [(a, ob)] s (wipe σ vs) H (fun _ _ => False) at0.inv (fpk at0.inv at0.no) at0.tn go
      refine gsz_thn (Nat.succ_le_of_lt at0.g) ti fun r s1 g1 ⟨u, hr, h1⟩ => ?_
      subst hr
      refine seg_bind_wrap ?_
      rw [over_gen, ho]
      refine gsz_thn g1 h1 fun _ s2 g2 ⟨x, H2, I2, r2, y2, t2, n2⟩ => ?_
      have I2' := I2.pinned (fpk I2 n2) (T.obj _ _ t2)
      refine seg_bind_wrap ?_
      rw [over_gen, ho]
      have pgr := pg.run _ s2 _ H2 x u _ I2' r2 (step x H2 y2)
      rw [hx] at pgr
      refine gsz_thn g2 pgr fun _ s3 g3 ⟨σ3, H3, I3, w3, q3⟩ => ?_
      refine seg_bind_wrap ?_
      rw [over_gen, ho]
      have ptr := pt.run _ s3 σ3 H3 _ I3 q3
      rw [hx] at ptr
      refine gsz_thn g3 ptr fun b s4 g4 ⟨H4, I4, q4⟩ => ?_
      -- the end of a turn that goes on
      have fin : ∀ {s' : Shared} {H' : Hp}, Inv G ([(a, ob)] ++ pinsAt fp s2.heap) σ3 H' s' → g + 1 ≤ s'.gens.size → AtTurn G a ob g fp tn (wipe σ vs) (i + 1) H' s' := fun {s' H'} I' gs => by
        have pin' : ∀ b ∈ fp, ∀ o, s2.heap.get? b = some o → s'.heap.get? b = some o ∧ H' b = none := fun b hb o e =>
          let z := I'.pin (b, o) (List.mem_append_right _ (List.mem_append_right _ (mem_pinsAt hb e)))
          ⟨z.1, z.2.1⟩
        have hl : (wipe σ vs).length = σ3.length := by rw [← w3, wipe_length]
        refine ⟨(I'.unpinned (pins := [(a, ob)])).weak hl (fun j v e => ?_), T.keep _ _ _ t2 fun b hb o e => (pin' b hb o e).1, fun b hb => ?_, gs⟩
        · rw [← w3] at e
          exact (wipe_some e).1
        · obtain ⟨o, e, _⟩ := T.obj _ _ t2 b hb
          exact (pin' b hb o e).2
      cases b with
      | false =>
        simp only [Bool.false_eq_true, if_false] at q4 ⊢
        obtain ⟨m', hm, w'⟩ := hNx _ q4
        exact seg_again rfl (ih m' hm n (i + 1) H4 s₀ s4 (by omega) (fin I4 g4) w')
      | true =>
        simp only [if_true] at q4 ⊢
        obtain ⟨n', rfl⟩ : ∃ n', n = n' + 1 := ⟨n - 1, by omega⟩
        have hy : ∀ v, yieldOut G.env v = yieldValue v := fun v => by simp only [yieldOut, hco, Bool.false_eq_true, if_false]
        simp only [hy]
        rw [Sem.bind_eq_wrap', Sem.bind_eq_wrap', Sem.wrap_wrap, Sem.wrap_wrap]
        refine seg_wrap ?_
        rw [over_gen, ho]
        have per := pe.run _ s4 σ3 H4 _ I4 q4
        rw [hx] at per
        refine gsz_thn g4 per fun v s5 g5 ⟨yv, H5, I5, r5, k, ek, q5⟩ => ?_
        subst ek
        obtain rfl : v = .bool k := r5
        refine seg_at (seg_yield rfl rfl rfl ?_)
        by_cases hk : k = stop
        · rw [if_pos hk] at q5
          exact .inl ⟨by rw [hk], σ3, H5, I5.unpinned (pins := [(a, ob)]), q5⟩
        · rw [if_neg hk] at q5
          obtain ⟨m', hm, w'⟩ := hNx _ q5
          refine .inr ⟨congrArg Value.bool (not_stop hk), i + 1, m', H5, by omega, fin I5 g5, w', fun s'' nap => ?_⟩
          have f5 := fin I5 g5
          exact seg_again rfl (ih m' hm n' (i + 1) H5 s'' s'' (by omega) ⟨inv_nap f5.inv nap, T.keep _ _ _ f5.tn fun b _ o e => nap.keep b o e, f5.no, Nat.lt_of_lt_of_le f5.g nap.size⟩ w')
end

section
variable {G : Cx} {AS : Around} {elt tg iter : Expr} {ifs : List Expr} {scope : Scope} {pos : Pos} {it a : Addr} {ob : Obj} {g : Nat} {fp : List Addr} {tn : Nat → Heap → Prop} {J : It} {gg : TG} {tt : TT} {te : TE} {vs : List Nat} {σ : L2.St} {W : Nat → Nat → Hp → Prop} {Q : VK} {stop : Bool}
theorem seg_begin (ho : AS.deeper G.env = G.A) (hx : G.xe = fun _ _ => False) (hc : G.calm = true) (hpn : G.pn = []) (T : Turn G.prog G.w G.K tg J fp it tn) (hex : ∀ b ∈ fp, b ∈ G.ex) (hab : ∀ b ∈ fp, a ≠ b) (hco : G.env.scope.isCoroutine = false) (pg : PG G tg gg) (pt : PTs G ifs tt) (pe : PE G elt te)
    (turn : TurnW J gg tt te vs σ W Q stop) (m n : Nat) (H : Hp) (s₀ s : Shared) (hmn : m < n) (at0 : AtTurn G a ob g fp tn (wipe σ vs) 0 H s) (w : W 0 m H) :
      Seg (model G.prog G.w) AS (GnR G a ob (wipe σ vs) Q stop) (GnY G a ob g fp tn (wipe σ vs) W Q stop) n s₀ (.compStart (.GeneratorExp elt [⟨tg, iter, ifs, 0⟩] scope pos) 0 (.ref it) .none G.env)
        ((model G.prog G.w).den (.compStart (.GeneratorExp elt [⟨tg, iter, ifs, 0⟩] scope pos) 0 (.ref it) .none G.env)) [] s := by
  have loop := seg_turns (iter := iter) (scope := scope) (pos := pos) ho hx hc hpn T hex hab hco pg pt pe turn m n 0 H s₀ s hmn at0 w
  show Seg _ AS _ _ _ s₀ _ ((compStart (.GeneratorExp elt [⟨tg, iter, ifs, 0⟩] scope pos) 0 (.ref it) .none G.env).onRaise (leaving G.env)) [] s
  unfold compStart
  rw [Sem.onRaise_eq_wrap]
  show Seg _ AS _ _ _ s₀ _ ((ask >>= _).wrap _ _ _ _) [] s
  refine seg_bind_wrap (wpAny_askSetting ?_)
  split
  · exact seg_again rfl loop
  · first
      | exact seg_bind_wrap (wpAny_rule (seg_bind_wrap (wpAny_standAt (seg_bind_wrap (T.self _ 0 s _ _ at0.tn (seg_again rfl loop))))))
      | (refine seg_bind_wrap (wpAny_rule ?_); show Seg _ AS _ _ _ s₀ _ ((standAt iter.pos >>= _).wrap _ _ _ _) [] s; exact seg_bind_wrap (wpAny_standAt (seg_bind_wrap (T.self _ 0 s _ _ at0.tn (seg_again rfl loop)))))
/-- the generator at a, to be asked at most n times more -/
structure Rdy (M : Model) (AS : Around) (R : GenEnd) (Y : Protocol) (a : Addr) (ob : Obj) (g n : Nat) (s : Shared) : Prop where
  at' : s.heap.get? a = some ob
  lim : s.heap.NoLimit
  st : ∃ gs, s.gens[g]? = some gs ∧ ∀ s', Nap s s' → gs.Goes M AS R Y n (.send .none) s'
theorem nap_trans {s s1 s2 : Shared} (x : Nap s s1) (y : Nap s1 s2) : Nap s s2 := ⟨y.os.trans x.os, y.bare, Nat.le_trans x.size y.size, fun b o e => y.keep b o (x.keep b o e)⟩
theorem nap_gen {s : Shared} {g : Nat} {gs : GenState} (hb : AllBare s.gens) (h : gs.bare = true) : Nap s (s.setGen g gs) := by
  refine ⟨rfl, ?_, by simp [Shared.setGen], fun b o e => e⟩
  intro y hy
  obtain ⟨i, hi, rfl⟩ := Array.mem_iff_getElem.mp hy
  have hi' : i < s.gens.size := by simpa [Shared.setGen] using hi
  by_cases e : g = i
  · subst e
    have : (s.setGen g gs).gens[g] = gs := by simp [Shared.setGen]
    rw [this]
    exact h
  · have q : (s.setGen g gs).gens[i]? = some s.gens[i] := by
      show (s.gens.setIfInBounds g gs)[i]? = _
      rw [Array.getElem?_setIfInBounds_ne e, Array.getElem?_eq_getElem hi']
    rw [Array.getElem?_eq_getElem hi] at q
    rw [Option.some.inj q]
    exact hb _ (Array.getElem_mem hi')
theorem set_self {s : Shared} {g : Nat} {gs : GenState} (h : g < s.gens.size) : (s.setGen g gs).gens[g]? = some gs := by
  simp [Shared.setGen, h]
/-- all( .. ): the walk over the generator -/
theorem all_turns {A : Around} {Rr : Result → Shared → Prop} (hh : A.handled = none) (hroom : A.depth < recursionLimit) (hg : ∀ h : Heap, h.get? a = some ob → h.IsGen a g)
    (fin : ∀ b s' σ' H', Inv G [(a, ob)] σ' H' s' → Q (.bl b) H' → Rr (.ok (.ret (.bool b))) s') : ∀ (n : Nat) (s : Shared), AllBare s.gens →
      Rdy (model G.prog G.w) A.in1.in1 (GnR G a ob (wipe σ vs) Q false) (GnY G a ob g fp tn (wipe σ vs) W Q false) a ob g n s → codeAny (model G.prog G.w) A (.builtin "all.loop" ⟨[.ref a], []⟩) Rr s := by
  intro n
  induction n with
  | zero =>
    intro s hb rdy
    obtain ⟨gs, hgs, hgo⟩ := rdy.st
    refine codeAny_builtin F.entry_all_loop ?_
    rw [Around.under_plainId F.plain_all_loop _]
    show wpAny _ A.in1 (pyNext (.ref a) >>= _) _ _ s
    refine wpAny_bind (wpAny_pyNext_genexpQ (A := A.in1) (P := fun _ _ s₁ => ∃ H', Inv G [(a, ob)] (wipe σ vs) H' s₁ ∧ Q (.bl (!false)) H') (Y := GnY G a ob g fp tn (wipe σ vs) W Q false) (n := 0) hh rdy.lim hroom (hg _ rdy.at') hgs (hgo _ (nap_gen hb rfl)) (fun v s₁ gs' hb' hv => ?_) fun s₁ hp h' hk => ?_)
    · rcases hv with ⟨rfl, σ', H', I', q'⟩ | ⟨_, i, m, H', hm, _⟩
      · refine wpAny_bind (wpAny_holding (wpAny_truthy_bool ?_))
        refine wpAny_bind (wpAny_letGo ?_)
        simp only [Bool.false_eq_true, if_false]
        refine wpAny_bind (wpAny_rule (wpAny_pure ?_))
        exact fin false _ σ' H' (inv_nap I' (nap_gen I'.bare hb')) q'
      · exact absurd hm (Nat.not_lt_zero _)
    · obtain ⟨H', I', q'⟩ := hp
      refine wpAny_bind (wpAny_rule (wpAny_pure ?_))
      exact fin true _ _ H' (inv_nap I' (nap_trans (nap_gen (gs := .finished) I'.bare rfl) ⟨rfl, (nap_gen (gs := .finished) I'.bare rfl).bare, Nat.le_refl _, hk⟩)) q'
  | succ n ih =>
    intro s hb rdy
    obtain ⟨gs, hgs, hgo⟩ := rdy.st
    refine codeAny_builtin F.entry_all_loop ?_
    rw [Around.under_plainId F.plain_all_loop _]
    show wpAny _ A.in1 (pyNext (.ref a) >>= _) _ _ s
    refine wpAny_bind (wpAny_pyNext_genexpQ (A := A.in1) (P := fun _ _ s₁ => ∃ H', Inv G [(a, ob)] (wipe σ vs) H' s₁ ∧ Q (.bl (!false)) H') (Y := GnY G a ob g fp tn (wipe σ vs) W Q false) (n := n + 1) hh rdy.lim hroom (hg _ rdy.at') hgs (hgo _ (nap_gen hb rfl)) (fun v s₁ gs' hb' hv => ?_) fun s₁ hp h' hk => ?_)
    · rcases hv with ⟨rfl, σ', H', I', q'⟩ | ⟨rfl, i, m, H', hm, at1, w1, kap⟩
      · refine wpAny_bind (wpAny_holding (wpAny_truthy_bool ?_))
        refine wpAny_bind (wpAny_letGo ?_)
        simp only [Bool.false_eq_true, if_false]
        refine wpAny_bind (wpAny_rule (wpAny_pure ?_))
        exact fin false _ σ' H' (inv_nap I' (nap_gen I'.bare hb')) q'
      · refine wpAny_bind (wpAny_holding (wpAny_truthy_bool ?_))
        refine wpAny_bind (wpAny_letGo ?_)
        simp only [Bool.not_false, if_true]
        have n1 := nap_gen (g := g) at1.inv.bare hb'
        have J1 := inv_nap at1.inv n1
        refine wpAny_pure ⟨plainId_quiet F.plain_all_loop _, ih _ n1.bare ⟨(J1.pin (a, ob) (List.mem_append_right _ List.mem_cons_self)).1, J1.nolimit, gs', set_self at1.g, fun s' nap => kap s' (nap_trans n1 nap)⟩⟩
    · obtain ⟨H', I', q'⟩ := hp
      refine wpAny_bind (wpAny_rule (wpAny_pure ?_))
      exact fin true _ _ H' (inv_nap I' (nap_trans (nap_gen (gs := .finished) I'.bare rfl) ⟨rfl, (nap_gen (gs := .finished) I'.bare rfl).bare, Nat.le_refl _, hk⟩)) q'
/-- any( .. ): the walk over the generator -/
theorem any_turns {A : Around} {Rr : Result → Shared → Prop} (hh : A.handled = none) (hroom : A.depth < recursionLimit) (hg : ∀ h : Heap, h.get? a = some ob → h.IsGen a g)
    (fin : ∀ b s' σ' H', Inv G [(a, ob)] σ' H' s' → Q (.bl b) H' → Rr (.ok (.ret (.bool b))) s') : ∀ (n : Nat) (s : Shared), AllBare s.gens →
      Rdy (model G.prog G.w) A.in1.in1 (GnR G a ob (wipe σ vs) Q true) (GnY G a ob g fp tn (wipe σ vs) W Q true) a ob g n s → codeAny (model G.prog G.w) A (.builtin "any.loop" ⟨[.ref a], []⟩) Rr s := by
  intro n
  induction n with
  | zero =>
    intro s hb rdy
    obtain ⟨gs, hgs, hgo⟩ := rdy.st
    refine codeAny_builtin F.entry_any_loop ?_
    rw [Around.under_plainId F.plain_any_loop _]
    show wpAny _ A.in1 (pyNext (.ref a) >>= _) _ _ s
    refine wpAny_bind (wpAny_pyNext_genexpQ (A := A.in1) (P := fun _ _ s₁ => ∃ H', Inv G [(a, ob)] (wipe σ vs) H' s₁ ∧ Q (.bl (!true)) H') (Y := GnY G a ob g fp tn (wipe σ vs) W Q true) (n := 0) hh rdy.lim hroom (hg _ rdy.at') hgs (hgo _ (nap_gen hb rfl)) (fun v s₁ gs' hb' hv => ?_) fun s₁ hp h' hk => ?_)
    · rcases hv with ⟨rfl, σ', H', I', q'⟩ | ⟨_, i, m, H', hm, _⟩
      · refine wpAny_bind (wpAny_holding (wpAny_truthy_bool ?_))
        refine wpAny_bind (wpAny_letGo ?_)
        simp only [if_true]
        refine wpAny_bind (wpAny_rule (wpAny_pure ?_))
        exact fin true _ σ' H' (inv_nap I' (nap_gen I'.bare hb')) q'
      · exact absurd hm (Nat.not_lt_zero _)
    · obtain ⟨H', I', q'⟩ := hp
      refine wpAny_bind (wpAny_rule (wpAny_pure ?_))
      exact fin false _ _ H' (inv_nap I' (nap_trans (nap_gen (gs := .finished) I'.bare rfl) ⟨rfl, (nap_gen (gs := .finished) I'.bare rfl).bare, Nat.le_refl _, hk⟩)) q'
  | succ n ih =>
    intro s hb rdy
    obtain ⟨gs, hgs, hgo⟩ := rdy.st
    refine codeAny_builtin F.entry_any_loop ?_
    rw [Around.under_plainId F.plain_any_loop _]
    show wpAny _ A.in1 (pyNext (.ref a) >>= _) _ _ s
    refine wpAny_bind (wpAny_pyNext_genexpQ (A := A.in1) (P := fun _ _ s₁ => ∃ H', Inv G [(a, ob)] (wipe σ vs) H' s₁ ∧ Q (.bl (!true)) H') (Y := GnY G a ob g fp tn (wipe σ vs) W Q true) (n := n + 1) hh rdy.lim hroom (hg _ rdy.at') hgs (hgo _ (nap_gen hb rfl)) (fun v s₁ gs' hb' hv => ?_) fun s₁ hp h' hk => ?_)
    · rcases hv with ⟨rfl, σ', H', I', q'⟩ | ⟨rfl, i, m, H', hm, at1, w1, kap⟩
      · refine wpAny_bind (wpAny_holding (wpAny_truthy_bool ?_))
        refine wpAny_bind (wpAny_letGo ?_)
        simp only [if_true]
        refine wpAny_bind (wpAny_rule (wpAny_pure ?_))
        exact fin true _ σ' H' (inv_nap I' (nap_gen I'.bare hb')) q'
      · refine wpAny_bind (wpAny_holding (wpAny_truthy_bool ?_))
        refine wpAny_bind (wpAny_letGo ?_)
        simp only [Bool.not_true, Bool.false_eq_true, if_false]
        have n1 := nap_gen (g := g) at1.inv.bare hb'
        have J1 := inv_nap at1.inv n1
        refine wpAny_pure ⟨plainId_quiet F.plain_any_loop _, ih _ n1.bare ⟨(J1.pin (a, ob) (List.mem_append_right _ List.mem_cons_self)).1, J1.nolimit, gs', set_self at1.g, fun s' nap => kap s' (nap_trans n1 nap)⟩⟩
    · obtain ⟨H', I', q'⟩ := hp
      refine wpAny_bind (wpAny_rule (wpAny_pure ?_))
      exact fin false _ _ H' (inv_nap I' (nap_trans (nap_gen (gs := .finished) I'.bare rfl) ⟨rfl, (nap_gen (gs := .finished) I'.bare rfl).bare, Nat.le_refl _, hk⟩)) q'
end

/-- all(elt for tg in iter if ..) (stop: false), any(..) (stop: true) -/
def tGen (P : Addr) (wi : TI) (gg : TG) (tt : TT) (te : TE) (vs : List Nat) (stop : Bool) : TE := fun σ H Q => wi σ H fun J H1 => GxR.TabG H1 P ∧ ∀ H2, GxR.Tabbed P H1 H2 → ∃ W : Nat → Nat → Hp → Prop, (∃ m, W 0 m H2) ∧ TurnW J gg tt te vs σ W Q stop
theorem rm_gen {k : Nat} {A : Around} {env : Env} (hr : Rm (k + 1) A) : Rm k (A.in1.in1.deeper env) :=
  ⟨⟨hr.rm.hd, by have := hr.rm.dp; show A.depth + 1 + 3 * k + 5 < _; omega, by have := hr.rm.un; show A.units + 1 + 1 + 3 + 16 * k + 200 < _; omega⟩, hr.gd⟩
theorem frames_gen {A : Around} {env : Env} {l : List Env} (h : A.frames = some l) : (A.in1.in1.deeper env).frames = some (env :: l) := by
  show Option.map _ A.frames = _
  rw [h]
  rfl
section
variable {X : Cx} {pins : List (Addr × Obj)} {σ : L2.St} {H : Hp} {s : Shared}
theorem gen_eval {c P : Addr} {elt tg iter : Expr} {ifs : List Expr} {gpos : Pos} {scope : Scope} {own : List (Str × Nat)} {wi : TI} {gg : TG} {tt : TT} {te : TE} {k : Nat} {stop : Bool} {Q : VK} {Q' : Value → Shared → Prop}
    (hr : Rm (k + 1) X.A) (TB : GxR.TabB X.base X.mg c P) (hcode : X.env.code = .ref c) (hc : X.calm = true) (hN : X.N.Nodup) (ok : GenOk X.N X.env.scope scope own) (hi : PI X tg iter wi)
    (hg : ∀ (s : Shared) (H : Hp) (C : Addr) (cd : Value) (A : Around) (fp : List Addr), Rm k A → PG (gx X s H (gEnv X scope C cd) A fp) tg gg)
    (ht : ∀ (s : Shared) (H : Hp) (C : Addr) (cd : Value) (A : Around) (fp : List Addr), Rm k A → PTs (gx X s H (gEnv X scope C cd) A fp) ifs tt)
    (he : ∀ (s : Shared) (H : Hp) (C : Addr) (cd : Value) (A : Around) (fp : List Addr), Rm k A → PE (gx X s H (gEnv X scope C cd) A fp) elt te)
    (hs : ∀ x, genFold iter X.env x = pure x) (I : Inv X pins σ H s) (h : tGen P wi gg tt te (own.map (·.2)) stop σ H Q)
    (hQ : ∀ (G : Cx) (a : Addr) (ob : Obj) (g n : Nat) (fp : List Addr) (tn : Nat → Heap → Prop) (W : Nat → Nat → Hp → Prop) (s5 : Shared), (∀ h : Heap, h.get? a = some ob → h.IsGen a g) → AllBare s5.gens →
      Rdy (model X.prog X.w) X.A.in1.in1 (GnR G a ob (wipe σ (own.map (·.2))) Q stop) (GnY G a ob g fp tn (wipe σ (own.map (·.2))) W Q stop) a ob g n s5 → G.prog = X.prog → G.w = X.w →
      (∀ σ' H' s', Inv G [(a, ob)] σ' H' s' → Inv X pins σ H' s') → Q' (.ref a) s5) :
    wpAny (model X.prog X.w) X.A (eval (.GeneratorExp elt [⟨tg, iter, ifs, 0⟩] scope gpos) X.env) Q' X.xe s := by
  refine wpAny_GeneratorExp_make ok.co (closure_ok (gen_free I ok)) ok.noc ok.dot ok.b.kind (by have := hr.rm.dp; omega) ?_ hs
  refine thn (hi.run pins s σ H _ I h) fun xv s1 h1 => thn h1 fun itv s2 h2 => ?_
  obtain ⟨it, fp, tn, J, H2, e, I2, T, st2, f2, ⟨ps, hP, tr⟩, q⟩ := h2
  subst e
  have hPs : s2.heap.get? P = some { cls := .none, data := .fields ps } := I2.hok P _ hP
  have cd2 : PySem.W.CodeHd s2.heap c P := TB.code.keeps fun b u e => I2.bk b u e
  have cont : ∀ (code : Value) (h3 : Heap) (tk : Nat) (more : Array Value), Heap.ExtBut P s2.heap h3 → s2.heap.objs.size ≤ h3.objs.size → h3.get? P = some { cls := .none, data := .fields (ps ++ more) } → TriplesOk (ps ++ more).toList →
      wpAny (model X.prog X.w) X.A (builtinsFor X.env.globals X.env.builtins) (fun bi s₄ => ∀ h', h'.Ns s₄.heap.objs.size (fun y => if y = ".0" then some (.ref it) else none) → Heap.SameBut s₄.heap.objs.size (s₄.heap.push { cls := .type "frame", data := .dict #[] }) h' →
          Q' (.ref h'.objs.size) { s₄ with
            gens := s₄.gens.push (.fresh (.compStart (.GeneratorExp elt [⟨tg, iter, ifs, 0⟩] scope gpos) 0 (.ref it) .none (genEnv scope (cloFrom X.env.cells scope.names []) s₄.heap.objs.size code bi X.env))),
            toks := s₄.toks + 1 + 1 + 1,
            heap := h'.push { cls := .type "generator", data := .fields #[.int s₄.gens.size 0, .str "<genexpr>" (s₄.toks + 1), .str (X.env.qual ++ "<genexpr>") (s₄.toks + 1 + 1)] } }) X.xe { s2 with heap := h3, toks := tk } := by
    intro code h3 tk more hx hsz hP3 tr3
    obtain ⟨bm, ob0, e1, e2, e3, e4, e5, e6, e7, e8⟩ := TB.bm
    have kp : ∀ b u, b ≠ P → s2.heap.get? b = some u → h3.get? b = some u := fun b u hb e => hx b u hb e
    refine wpAny_builtinsFor (m := X.mg) (by rw [I2.ok.glob]; exact (I2.mod.glob.keeps I2.bk).extBut hx TB.gP) e1 e2 (kp _ _ e4 (I2.bk _ _ e5)) e6 e7 e8 ?_
    intro h' hn' hs'
    have I3 : Inv X pins σ (upd H2 P (.tbl (ps ++ more))) { s2 with heap := h3, gens := s2.gens, drawn := s2.drawn, toks := tk } := GxR.inv_tab I2 hP kp hP3 I2.bare
    have hH3 : GxR.Tabbed P H2 (upd H2 P (.tbl (ps ++ more))) := ⟨⟨ps ++ more, upd_same, tr3⟩, fun b hb => upd_ne hb⟩
    obtain ⟨W, ⟨m0, w0⟩, turn⟩ := q _ hH3
    generalize upd H2 P (.tbl (ps ++ more)) = H3 at I3 hH3 w0
    have nP : ∀ b, H2 b = none → b ≠ P := fun b e z => by rw [z, hP] at e; cases e
    have f3 : ∀ b ∈ fp, FpOk X pins H3 b ∧ b < h3.objs.size := fun b hb => by
      obtain ⟨o, eo, _⟩ := T.obj _ _ st2 b hb
      refine ⟨⟨?_, (f2 b hb).2⟩, Nat.lt_of_lt_of_le (Heap.lt_size eo) hsz⟩
      rw [hH3.2 b (nP b (f2 b hb).1)]
      exact (f2 b hb).1
    have st3 : tn 0 h3 := T.keep _ _ _ st2 fun b hb o e => kp b o (nP b (f2 b hb).1) e
    show Q' (.ref h'.objs.size) _
    generalize hob : ({ cls := .type "generator", data := .fields #[.int s2.gens.size 0, .str "<genexpr>" (tk + 1), .str (X.env.qual ++ "<genexpr>") (tk + 1 + 1)] } : Obj) = ob
    have hsz' : h'.objs.size = h3.objs.size + 1 := by rw [hs'.1, Heap.size_push]
    have keep' : ∀ b o, h3.get? b = some o → h'.get? b = some o := fun b o e => hs'.extBut b o (Nat.ne_of_lt (Heap.lt_size e)) (Heap.get?_push_of_some _ e)
    have keep5 : ∀ b o, h3.get? b = some o → (h'.push ob).get? b = some o := fun b o e => Heap.get?_push_of_some _ (keep' b o e)
    generalize hcode5 : Code.compStart (.GeneratorExp elt [⟨tg, iter, ifs, 0⟩] scope gpos) 0 (.ref it) .none (gEnv X scope h3.objs.size code) = cs
    generalize hz : ({ s2 with heap := h'.push ob, gens := s2.gens.push (.fresh cs), toks := tk + 1 + 1 + 1 } : Shared) = z
    have zh : z.heap = h'.push ob := by rw [← hz]
    have zg : z.gens = s2.gens.push (.fresh cs) := by rw [← hz]
    have zo : z.os = s2.os := by rw [← hz]
    have zb : AllBare z.gens := by rw [zg]; exact I2.bare.push rfl
    have I4 := gen_start (code := code) (A := X.A.in1.in1.deeper (gEnv X scope h3.objs.size code)) (z := z) I3 ok hN f3 hr.rm.hd (frames_gen I3.ok.frames) zo zb (fun b o e => by rw [zh]; exact keep5 b o e) (by rw [zh]; exact hn'.push _)
    have ha : z.heap.get? h'.objs.size = some ob := by rw [zh]; exact Heap.get?_push_size _ (by rw [← hob]; rfl)
    have hna : H3 h'.objs.size = none := I3.hok.fresh (by show h3.objs.size ≤ _; omega)
    have I5 : Inv (gx X { s2 with heap := h3, gens := s2.gens, drawn := s2.drawn, toks := tk } H3 (gEnv X scope h3.objs.size code) (X.A.in1.in1.deeper (gEnv X scope h3.objs.size code)) fp) [(h'.objs.size, ob)] (wipe σ (own.map (·.2))) H3 z := I4.pins_of fun p hp => by
      rw [List.mem_singleton.mp hp]
      refine ⟨ha, hna, ?_, fun hf => ?_, fun v e => ?_⟩
      · show h'.objs.size ≠ h3.objs.size
        omega
      · rcases List.mem_cons.mp (I3.stkSub _ hf) with e | e
        · have := I3.lt
          have e : h'.objs.size = X.env.locals := e
          have this : X.env.locals < h3.objs.size := this
          have : h3.objs.size < h'.objs.size := by omega
          rw [e] at this
          exact absurd (Nat.lt_trans this ‹X.env.locals < h3.objs.size›) (Nat.lt_irrefl _)
        · exact I3.nofs (show h3.objs.size ≤ h'.objs.size by omega) e
      · rw [← hob] at e
        cases e
    have hgen : ∀ h : Heap, h.get? h'.objs.size = some ob → h.IsGen h'.objs.size s2.gens.size := fun h e => by
      subst hob
      exact ⟨_, _, _, e, rfl, rfl, rfl⟩
    have nsz : s2.gens.size < z.gens.size := by rw [zg, Array.size_push]; exact Nat.lt_succ_self _
    have back : ∀ (σ' : L2.St) (H' : Hp) (s' : Shared), Inv (gx X { s2 with heap := h3, gens := s2.gens, drawn := s2.drawn, toks := tk } H3 (gEnv X scope h3.objs.size code) (X.A.in1.in1.deeper (gEnv X scope h3.objs.size code)) fp) [(h'.objs.size, ob)] σ' H' s' → Inv X pins σ H' s' := fun σ' H' s' I' =>
      I3.call' (ch := fp) I'.os I'.base I'.hok I'.bare fun b hb => ⟨(f3 b hb).1.2.2.2.1, (f3 b hb).1.2.1, (f3 b hb).1.2.2.2.2.1, (f3 b hb).1.2.2.2.2.2⟩
    have pg := hg { s2 with heap := h3, gens := s2.gens, drawn := s2.drawn, toks := tk } H3 h3.objs.size code _ fp (rm_gen (env := gEnv X scope h3.objs.size code) hr)
    have pt := ht { s2 with heap := h3, gens := s2.gens, drawn := s2.drawn, toks := tk } H3 h3.objs.size code _ fp (rm_gen (env := gEnv X scope h3.objs.size code) hr)
    have pe := he { s2 with heap := h3, gens := s2.gens, drawn := s2.drawn, toks := tk } H3 h3.objs.size code _ fp (rm_gen (env := gEnv X scope h3.objs.size code) hr)
    have start : ∀ s', Nap z s' → (GenState.fresh cs).Goes (model X.prog X.w) X.A.in1.in1 (GnR (gx X { s2 with heap := h3, gens := s2.gens, drawn := s2.drawn, toks := tk } H3 (gEnv X scope h3.objs.size code) (X.A.in1.in1.deeper (gEnv X scope h3.objs.size code)) fp) h'.objs.size ob (wipe σ (own.map (·.2))) Q stop)
        (GnY (gx X { s2 with heap := h3, gens := s2.gens, drawn := s2.drawn, toks := tk } H3 (gEnv X scope h3.objs.size code) (X.A.in1.in1.deeper (gEnv X scope h3.objs.size code)) fp) h'.objs.size ob s2.gens.size fp tn (wipe σ (own.map (·.2))) W Q stop) (m0 + 1) (.send .none) s' := fun s' nap => by
      refine ⟨rfl, ?_⟩
      rw [← hcode5]
      exact seg_begin (G := gx X { s2 with heap := h3, gens := s2.gens, drawn := s2.drawn, toks := tk } H3 (gEnv X scope h3.objs.size code) (X.A.in1.in1.deeper (gEnv X scope h3.objs.size code)) fp) (AS := X.A.in1.in1) (iter := iter) (scope := scope) (pos := gpos) rfl rfl hc rfl T (fun b hb => hb) (fun b hb z => absurd (f3 b hb).2 (by rw [← z]; exact Nat.not_lt.mpr (by rw [hsz']; exact Nat.le_succ _))) ok.co pg pt pe turn m0 (m0 + 1) H3 s' s' (Nat.lt_succ_self _)
        ⟨inv_nap I5 nap, T.keep _ _ _ st3 fun b _ o e => nap.keep b o (by rw [zh]; exact keep5 b o e), fun b hb => (f3 b hb).1.1, Nat.lt_of_lt_of_le nsz nap.size⟩ w0
    exact hQ _ h'.objs.size ob s2.gens.size (m0 + 1) fp tn W z hgen zb ⟨ha, I5.nolimit, _, by rw [zg]; exact Array.getElem?_push_size .., start⟩ rfl rfl back
  refine ⟨I2.nolimit, ?_⟩
  cases hf : codeAmong gpos ps.toList with
  | none =>
    refine wpAny_genexprCodeX hcode (cd2.code hPs tr) (cd2.tab hPs) hf fun c' h' tk hx hge hlt hco' _ htab' _ => ?_
    obtain ⟨o1, vs', f1, tf, fl, tg', inF, tx, tt', op, _, _, _, _, _, _, _, _, _, htr, _⟩ := hco'
    exact cont _ h' tk _ hx (Nat.le_trans hge (Nat.le_of_lt hlt)) htab'.2 htr
  | some cv =>
    refine wpAny_genexprCode_hit hcode (cd2.code hPs tr) hf ?_
    exact cont cv s2.heap s2.toks #[] (Heap.ExtBut.refl _ _) (Nat.le_refl _) (by simpa using hPs) (by simpa using tr)
theorem pe_allG {c P : Addr} {elt tg iter : Expr} {ifs : List Expr} {p pos gpos : Pos} {scope : Scope} {own : List (Str × Nat)} {wi : TI} {gg : TG} {tt : TT} {te : TE} {k : Nat}
    (hr : Rm (k + 1) X.A) (TB : GxR.TabB X.base X.mg c P) (hcode : X.env.code = .ref c) (hc : X.calm = true) (hN : X.N.Nodup) (ok : GenOk X.N X.env.scope scope own) (hn : Gl X "all") (hm : X.mg "all" = none) (hi : PI X tg iter wi)
    (hg : ∀ (s : Shared) (H : Hp) (C : Addr) (cd : Value) (A : Around) (fp : List Addr), Rm k A → PG (gx X s H (gEnv X scope C cd) A fp) tg gg)
    (ht : ∀ (s : Shared) (H : Hp) (C : Addr) (cd : Value) (A : Around) (fp : List Addr), Rm k A → PTs (gx X s H (gEnv X scope C cd) A fp) ifs tt)
    (he : ∀ (s : Shared) (H : Hp) (C : Addr) (cd : Value) (A : Around) (fp : List Addr), Rm k A → PE (gx X s H (gEnv X scope C cd) A fp) elt te)
    (hs : ∀ x, genFold iter X.env x = pure x := by intro _; rfl) (hb : bootBuiltins "all" = some (.builtin "all") := by decide +kernel)
    (hst : starEach [.GeneratorExp elt [⟨tg, iter, ifs, 0⟩] scope gpos] X.env = (false, eval (.GeneratorExp elt [⟨tg, iter, ifs, 0⟩] scope gpos) X.env) :: starEach [] X.env := by rfl) :
    PE X (.Call (.Name "all" p) [.GeneratorExp elt [⟨tg, iter, ifs, 0⟩] scope gpos] [] pos) (tGen P wi gg tt te (own.map (·.2)) false) := by
  refine ⟨fun pins s σ H Q I h => ?_⟩
  refine wpAny_Call_Name_kw (ld_blt I hn hm hb ?_)
  refine PyProof.Rows.callWith_builtin1 ?_ hst (by rfl)
  rw [hst]
  show wpAny _ _ (spliced ((false, eval (.GeneratorExp elt [⟨tg, iter, ifs, 0⟩] scope gpos) X.env) :: backTo pos (starEach [] X.env))) _ _ s
  refine Calls.spliced_cons (gen_eval hr TB hcode hc hN ok hi hg ht he hs I h fun G a ob g n fp tn W s5 hgen hb5 rdy ep ew back => ?_)
  refine Calls.spliced_nil ?_
  refine call_function_tree F.kind_all F.plain_all F.entry_all (F.args_all1 _) ?_
  unfold Builtin.«all»
  refine wpAny_bind (m := oneArg "all" _) (wpAny_pure ?_)
  refine wpAny_bind (wpAny_pyIter_gen (hgen _ rdy.at') ?_)
  refine wpAny_pure ⟨plainId_quiet F.plain_all_loop _, ?_⟩
  rw [← ep, ← ew] at rdy ⊢
  exact all_turns hr.rm.hd (by have := hr.rm.dp; omega) hgen (fun b s' σ' H' I' q => ⟨.bl b, H', back σ' H' s' I', rfl, q⟩) n s5 hb5 rdy
theorem pe_anyG {c P : Addr} {elt tg iter : Expr} {ifs : List Expr} {p pos gpos : Pos} {scope : Scope} {own : List (Str × Nat)} {wi : TI} {gg : TG} {tt : TT} {te : TE} {k : Nat}
    (hr : Rm (k + 1) X.A) (TB : GxR.TabB X.base X.mg c P) (hcode : X.env.code = .ref c) (hc : X.calm = true) (hN : X.N.Nodup) (ok : GenOk X.N X.env.scope scope own) (hn : Gl X "any") (hm : X.mg "any" = none) (hi : PI X tg iter wi)
    (hg : ∀ (s : Shared) (H : Hp) (C : Addr) (cd : Value) (A : Around) (fp : List Addr), Rm k A → PG (gx X s H (gEnv X scope C cd) A fp) tg gg)
    (ht : ∀ (s : Shared) (H : Hp) (C : Addr) (cd : Value) (A : Around) (fp : List Addr), Rm k A → PTs (gx X s H (gEnv X scope C cd) A fp) ifs tt)
    (he : ∀ (s : Shared) (H : Hp) (C : Addr) (cd : Value) (A : Around) (fp : List Addr), Rm k A → PE (gx X s H (gEnv X scope C cd) A fp) elt te)
    (hs : ∀ x, genFold iter X.env x = pure x := by intro _; rfl) (hb : bootBuiltins "any" = some (.builtin "any") := by decide +kernel)
    (hst : starEach [.GeneratorExp elt [⟨tg, iter, ifs, 0⟩] scope gpos] X.env = (false, eval (.GeneratorExp elt [⟨tg, iter, ifs, 0⟩] scope gpos) X.env) :: starEach [] X.env := by rfl) :
    PE X (.Call (.Name "any" p) [.GeneratorExp elt [⟨tg, iter, ifs, 0⟩] scope gpos] [] pos) (tGen P wi gg tt te (own.map (·.2)) true) := by
  refine ⟨fun pins s σ H Q I h => ?_⟩
  refine wpAny_Call_Name_kw (ld_blt I hn hm hb ?_)
  refine PyProof.Rows.callWith_builtin1 ?_ hst (by rfl)
  rw [hst]
  show wpAny _ _ (spliced ((false, eval (.GeneratorExp elt [⟨tg, iter, ifs, 0⟩] scope gpos) X.env) :: backTo pos (starEach [] X.env))) _ _ s
  refine Calls.spliced_cons (gen_eval hr TB hcode hc hN ok hi hg ht he hs I h fun G a ob g n fp tn W s5 hgen hb5 rdy ep ew back => ?_)
  refine Calls.spliced_nil ?_
  refine call_function_tree F.kind_any F.plain_any F.entry_any (F.args_any1 _) ?_
  unfold Builtin.«any»
  refine wpAny_bind (m := oneArg "any" _) (wpAny_pure ?_)
  refine wpAny_bind (wpAny_pyIter_gen (hgen _ rdy.at') ?_)
  refine wpAny_pure ⟨plainId_quiet F.plain_any_loop _, ?_⟩
  rw [← ep, ← ew] at rdy ⊢
  exact any_turns hr.rm.hd (by have := hr.rm.dp; omega) hgen (fun b s' σ' H' I' q => ⟨.bl b, H', back σ' H' s' I', rfl, q⟩) n s5 hb5 rdy
end
end Wg

/-! Wagon, part 31: tables of code objects: what stays, how such readings go on, defs that hold a generator expression, the end. -/
namespace Wg
open PySem PySem.Spec PyProof.Rows L2

/-- the tables at L are tables -/
def Tabs (L : List Addr) (H : Hp) : Prop := ∀ p ∈ L, GxR.TabG H p
/-- all but the tables at L is kept, and these stay tables -/
structure KT (L : List Addr) (H H' : Hp) : Prop where
  k : Keep L H H'
  t : Tabs L H → Tabs L H'
theorem KT.refl (L : List Addr) (H : Hp) : KT L H H := ⟨Keep.refl _ _, id⟩
theorem KT.trans {L : List Addr} {H H1 H2 : Hp} (a : KT L H H1) (b : KT L H1 H2) : KT L H H2 := ⟨a.k.trans b.k, fun h => b.t (a.t h)⟩
theorem Tabs.keep0 {L : List Addr} {H H' : Hp} (h : Tabs L H) (k : Keep [] H H') : Tabs L H' := fun p hp => let ⟨ps, e, t⟩ := h p hp; ⟨ps, k _ _ nin0 e, t⟩
theorem KT.of0 {L : List Addr} {H H' : Hp} (k : Keep [] H H') : KT L H H' := ⟨k.all, fun h => h.keep0 k⟩
theorem Tabs.nin {L : List Addr} {H : Hp} (h : Tabs L H) {b : Addr} {o : HO} (e : H b = some o) (n : ∀ ps, o ≠ .tbl ps) : b ∉ L := fun z => by
  obtain ⟨ps, e', _⟩ := h b z
  rw [e] at e'
  exact n ps (Option.some.inj e')
theorem Tabs.ninN {L : List Addr} {H : Hp} (h : Tabs L H) {b : Addr} (e : H b = none) : b ∉ L := fun z => by
  obtain ⟨ps, e', _⟩ := h b z
  rw [e] at e'
  cases e'
theorem Tabs.noTup {L : List Addr} {H : Hp} (h : Tabs L H) : ∀ a xs, Tup H a xs → a ∉ L := fun a xs ⟨ob, e, _⟩ => h.nin e fun ps z => nomatch z
theorem Tabs.lst {L : List Addr} {H : Hp} (h : Tabs L H) {a : Addr} {xs : List V} (e : H a = some (.lst xs)) : a ∉ L := h.nin e fun ps z => nomatch z
theorem Tabs.dK {L : List Addr} {H : Hp} (h : Tabs L H) {a : Addr} {xs : List (Key × V)} (e : H a = some (.dK xs)) : a ∉ L := h.nin e fun ps z => nomatch z
/-- a new cell is changed -/
theorem KT.past {L : List Addr} {H H1 H2 : Hp} {d : Addr} (k1 : KT L H H1) (k2 : Keep [d] H1 H2) (n : H d = none) (ht : Tabs L H) : KT L H H2 := by
  have t1 := k1.t ht
  refine ⟨fun b o hb e => k2 b o (nin1 (ne_of_none e n)) (k1.k b o hb e), fun _ p hp => ?_⟩
  obtain ⟨ps, e, tr⟩ := t1 p hp
  refine ⟨ps, k2 _ _ (nin1 fun z => ?_) e, tr⟩
  rw [z] at hp
  exact ht.ninN n hp
theorem kt_tab {L : List Addr} {P : Addr} {H H' : Hp} (h : P ∈ L) (t : GxR.Tabbed P H H') : KT L H H' := by
  refine ⟨fun b o hb e => (t.2 b fun z => hb (z ▸ h)).trans e, fun ht p hp => ?_⟩
  by_cases z : p = P
  · rw [z]
    exact t.1
  · obtain ⟨ps, e, tr⟩ := ht p hp
    exact ⟨ps, (t.2 p z).trans e, tr⟩
theorem Tabs.sqT {K : PySem.W.Frag} {L : List Addr} {H H' : Hp} {a : Addr} {xs : List V} (ht : Tabs L H) (k : KT L H H') (h : SqT K H a xs) : SqT K H' a xs := by
  rcases h with (h | ⟨o, h⟩) | h
  · exact .inl (.inl (k.k _ _ (ht.nin h fun ps z => nomatch z) h))
  · exact .inl (.inr ⟨o, k.k _ _ (ht.nin h fun ps z => nomatch z) h⟩)
  · exact .inr h
theorem Tabs.sqL {K : PySem.W.Frag} {L : List Addr} {H H' : Hp} {a : Addr} {xs : List V} (ht : Tabs L H) (k : KT L H H') (h : SqL K H a xs) : SqL K H' a xs := by
  rcases h with (h | ⟨o, h⟩) | h
  · exact .inl (.inl (k.k _ _ (ht.nin h fun ps z => nomatch z) h))
  · exact .inl (.inr ⟨o, k.k _ _ (ht.nin h fun ps z => nomatch z) h⟩)
  · exact .inr h
mutual
theorem dp_kt {K : PySem.W.Frag} {L : List Addr} {H H' : Hp} (ht : Tabs L H) (k : KT L H H') : ∀ {v : V} {d : PyData}, Dp K H v d → Dp K H' v d
  | _, _, .non => .non
  | _, _, .bl b => .bl b
  | _, _, .int i => .int i
  | _, _, .str x => .str x
  | _, _, .lst h a => .lst (ht.sqL k h) (dps_kt ht k a)
  | _, _, .tup h a => .tup (ht.sqT k h) (dps_kt ht k a)
theorem dps_kt {K : PySem.W.Frag} {L : List Addr} {H H' : Hp} (ht : Tabs L H) (k : KT L H H') : ∀ {vs : List V} {ds : List PyData}, DpAll K H vs ds → DpAll K H' vs ds
  | _, _, .nil => .nil
  | _, _, .cons h r => .cons (dp_kt ht k h) (dps_kt ht k r)
end

/-! ### readings -/
def GU (K : PySem.W.Frag) (P : Addr) (g : TG) (tt : TT) (te : TE) (vs : List Nat) (stop : Bool) (σ : L2.St) (Q : VK) (x : V) (H1 : Hp) : Prop := iU K (tC x) σ H1 fun J H1 => GxR.TabG H1 P ∧ ∀ H2, GxR.Tabbed P H1 H2 → ∃ W : Nat → Nat → Hp → Prop, (∃ m, W 0 m H2) ∧ TurnW J g tt te vs σ W Q stop
theorem e_genU {K : PySem.W.Frag} {P : Addr} {tl : TE} {g : TG} {tt : TT} {te : TE} {vs : List Nat} {stop : Bool} {σ : L2.St} {H : Hp} {Q : VK} : tGen P (iU K tl) g tt te vs stop σ H Q ↔ tl σ H (GU K P g tt te vs stop σ Q) := Iff.rfl
/-- of the turns: n of them, turn i's truth f i -/
theorem gen_of {L : List Addr} {n : Nat} {it : Nat → V} {J : It} {g : TG} {tt : TT} {te : TE} {vs : List Nat} {σ : L2.St} {H2 : Hp} {Q : VK} {stop : Bool} (f : Nat → Bool)
    (hgo : ∀ i H, i < n → KT L H2 H → J.go i H) (hy : ∀ i H x H', i < n → KT L H2 H → J.yld i H x H' → x = it i ∧ H' = H) (hst : ∀ H, KT L H2 H → J.stop n H)
    (hs : ∀ i H (R : VK) (R0 : Hp → Prop), i < n → KT L H2 H → (∀ H4, KT L H H4 → R (.bl (f i)) H4) → g (it i) (wipe σ vs) H fun σ2 H3 => wipe σ2 vs = wipe σ vs ∧ tt σ2 H3 fun b H4 => if b = true then te σ2 H4 R else R0 H4)
    (q : ∀ H', KT L H2 H' → Q (.bl (if stop = true then (List.range n).any f else (List.range n).all f)) H') : ∃ W : Nat → Nat → Hp → Prop, (∃ m, W 0 m H2) ∧ TurnW J g tt te vs σ W Q stop := by
  refine ⟨fun i m H => m = n - i ∧ i ≤ n ∧ KT L H2 H ∧ ∀ j, j < i → f j = !stop, ⟨n, by omega, by omega, KT.refl _ _, fun _ h => by omega⟩, ?_⟩
  rintro i m H ⟨rfl, hi, k, hf⟩
  by_cases hlt : i < n
  · refine .inr ⟨hgo i H hlt k, fun H' => KT L H2 H' ∧ ∀ j, j < i + 1 → f j = !stop, fun H' h => ⟨n - (i + 1), by omega, rfl, hlt, h⟩, fun x H' y => ?_⟩
    obtain ⟨ex, eh⟩ := hy i H x H' hlt k y
    rw [ex, eh]
    refine hs i H _ _ hlt k fun H4 k4 => ⟨f i, rfl, ?_⟩
    by_cases e : f i = stop
    · rw [if_pos e]
      have q4 := q H4 (k.trans k4)
      cases stop with
      | true =>
        rw [if_pos rfl, List.any_eq_true.mpr ⟨i, List.mem_range.mpr hlt, e⟩] at q4
        exact q4
      | false =>
        rw [if_neg Bool.false_ne_true] at q4
        have : (List.range n).all f = false := by
          rw [List.all_eq_false]
          exact ⟨i, List.mem_range.mpr hlt, by rw [e]; decide⟩
        rw [this] at q4
        exact q4
    · rw [if_neg e]
      refine ⟨k.trans k4, fun j hj => ?_⟩
      rcases Nat.lt_succ_iff_lt_or_eq.mp hj with h | h
      · exact hf j h
      · rw [h]
        exact not_stop e
  · have e : i = n := by omega
    subst e
    refine .inl ⟨hst H k, ?_⟩
    have q4 := q H k
    cases stop with
    | true =>
      rw [if_pos rfl] at q4
      have : (List.range i).any f = false := by
        rw [List.any_eq_false]
        intro j hj
        rw [hf j (List.mem_range.mp hj)]
        decide
      rw [this] at q4
      exact q4
    | false =>
      rw [if_neg Bool.false_ne_true] at q4
      have : (List.range i).all f = true := by
        rw [List.all_eq_true]
        intro j hj
        rw [hf j (List.mem_range.mp hj)]
        rfl
      rw [this] at q4
      exact q4
theorem range_any {α : Type} {rs : List α} {f : α → Bool} {d : Bool} : (List.range rs.length).any (fun i => (rs[i]?.map f).getD d) = rs.any f := by
  rw [Bool.eq_iff_iff, List.any_eq_true, List.any_eq_true]
  constructor
  · rintro ⟨i, hi, e⟩
    have hi := List.mem_range.mp hi
    rw [List.getElem?_eq_getElem hi] at e
    exact ⟨_, List.getElem_mem hi, e⟩
  · rintro ⟨x, hx, e⟩
    obtain ⟨i, hi, rfl⟩ := List.getElem_of_mem hx
    exact ⟨i, List.mem_range.mpr hi, by rw [List.getElem?_eq_getElem hi]; exact e⟩
theorem range_all {α : Type} {rs : List α} {f : α → Bool} {d : Bool} : (List.range rs.length).all (fun i => (rs[i]?.map f).getD d) = rs.all f := by
  rw [Bool.eq_iff_iff, List.all_eq_true, List.all_eq_true]
  constructor
  · intro h x hx
    obtain ⟨i, hi, rfl⟩ := List.getElem_of_mem hx
    have := h i (List.mem_range.mpr hi)
    rw [List.getElem?_eq_getElem hi] at this
    exact this
  · intro h i hi
    have hi := List.mem_range.mp hi
    rw [List.getElem?_eq_getElem hi]
    exact h _ (List.getElem_mem hi)
theorem each_got {α β : Type} {R : α → β → Prop} : ∀ {vs : List α} {rs : List β} {i : Nat} {v : α}, PySem.W.EachIs R vs rs → vs[i]? = some v → ∃ r, rs[i]? = some r ∧ R v r
  | _, _, _, _, .nil, e => by simp at e
  | _, _, 0, _, .cons (b := q) h _, e => by
    simp at e
    subst e
    exact ⟨q, rfl, h⟩
  | _, _, i + 1, _, .cons _ t, e => by
    obtain ⟨q, h1, h2⟩ := each_got (i := i) t (by simpa using e)
    exact ⟨q, by simpa using h1, h2⟩
def aaB {α : Type} (stop : Bool) (f : α → Bool) (rs : List α) : Bool := if stop = true then rs.any f else rs.all f
/-- over a list or a tuple of things, wherever it stands -/
theorem g_GE {K : PySem.W.Frag} {L : List Addr} {P : Addr} {α : Type} {RR : Hp → V → α → Prop} {g : TG} {tt : TT} {te : TE} {vs : List Nat} {stop : Bool} {σ : L2.St} {H1 : Hp} {Q : VK} {a : Addr} {xs : List V} {rs : List α} (f : α → Bool) (hT : Tabs L H1) (hP : P ∈ L)
    (hx : SqL K H1 a xs ∨ SqT K H1 a xs) (he : PySem.W.EachIs (RR H1) xs rs) (hk : ∀ H' x r, RR H1 x r → KT L H1 H' → RR H' x r)
    (hs : ∀ (i : Nat) (x : V) (r : α) (H : Hp) (R : VK) (R0 : Hp → Prop), rs[i]? = some r → KT L H1 H → Tabs L H → RR H x r → (∀ H4, KT L H H4 → R (.bl (f r)) H4) → g x (wipe σ vs) H fun σ2 H3 => wipe σ2 vs = wipe σ vs ∧ tt σ2 H3 fun b H4 => if b = true then te σ2 H4 R else R0 H4)
    (q : ∀ H', KT L H1 H' → Q (.bl (aaB stop f rs)) H') : GU K P g tt te vs stop σ Q (.ref a) H1 := by
  have hl := he.length
  have tail : ∀ {J : It} {H2 : Hp}, GxR.Tabbed P H1 H2 → (∀ i H, i < xs.length → KT L H2 H → J.go i H) → (∀ i H x H', i < xs.length → KT L H2 H → J.yld i H x H' → x = xs.getD i .non ∧ H' = H) → (∀ H, KT L H2 H → J.stop xs.length H) →
      ∃ W : Nat → Nat → Hp → Prop, (∃ m, W 0 m H2) ∧ TurnW J g tt te vs σ W Q stop := fun {J H2} t h1 h2 h3 => by
    have k12 := kt_tab hP t
    refine gen_of (L := L) (n := xs.length) (it := fun i => xs.getD i .non) (fun i => (rs[i]?.map f).getD stop) h1 h2 h3 (fun i H R R0 hi k hR => ?_) fun H' k => ?_
    · obtain ⟨r, e1, e2⟩ := each_got he (List.getElem?_eq_getElem hi)
      have e3 : xs.getD i .non = xs[i] := by rw [List.getD_eq_getElem?_getD, List.getElem?_eq_getElem hi]; rfl
      show g (xs.getD i .non) _ _ _
      rw [e3]
      rw [e1] at hR
      exact hs i _ r H R R0 e1 (k12.trans k) ((k12.trans k).t hT) (hk _ _ _ e2 (k12.trans k)) hR
    · rw [hl, range_any, range_all]
      exact q H' (k12.trans k)
  have kk : ∀ {H2 H}, GxR.Tabbed P H1 H2 → KT L H2 H → KT L H1 H := fun t k => (kt_tab hP t).trans k
  rcases hx with hx | hx
  · exact .inl ⟨a, xs, rfl, hx, hT P hP, fun H2 t => tail t (fun i H hi k => ⟨xs, xs[i], hT.sqL (kk t k) hx, List.getElem?_eq_getElem hi⟩) (fun i H x H' hi k y => ⟨by rw [List.getD_eq_getElem?_getD, y.2 xs (hT.sqL (kk t k) hx)]; rfl, y.1⟩) fun H k => ⟨xs, hT.sqL (kk t k) hx, Nat.le_refl _⟩⟩
  · exact .inr (.inl ⟨a, xs, rfl, hx, hT P hP, fun H2 t => tail t (fun i H hi k => ⟨xs, xs[i], hT.sqT (kk t k) hx, List.getElem?_eq_getElem hi⟩) (fun i H x H' hi k y => ⟨by rw [List.getD_eq_getElem?_getD, y.2 xs (hT.sqT (kk t k) hx)]; rfl, y.1⟩) fun H k => ⟨xs, hT.sqT (kk t k) hx, Nat.le_refl _⟩⟩)
/-- over a text's signs -/
theorem g_GS {K : PySem.W.Frag} {L : List Addr} {P : Addr} {g : TG} {tt : TT} {te : TE} {vs : List Nat} {stop : Bool} {σ : L2.St} {H1 : Hp} {Q : VK} {z : Str} (f : Nat → Bool) (hT : Tabs L H1) (hP : P ∈ L)
    (hs : ∀ c H (R : VK) (R0 : Hp → Prop), c ∈ z.cps.toList → KT L H1 H → Tabs L H → (∀ H4, KT L H H4 → R (.bl (f c)) H4) → g (.str ⟨#[c]⟩) (wipe σ vs) H fun σ2 H3 => wipe σ2 vs = wipe σ vs ∧ tt σ2 H3 fun b H4 => if b = true then te σ2 H4 R else R0 H4)
    (q : ∀ H', KT L H1 H' → Q (.bl (aaB stop f z.cps.toList)) H') : GU K P g tt te vs stop σ Q (.str z) H1 := by
  refine .inr (.inr ⟨z, rfl, hT P hP, fun H2 t => ?_⟩)
  have k12 := kt_tab hP t
  have sz : z.cps.size = z.cps.toList.length := by simp
  refine gen_of (L := L) (n := z.cps.size) (it := fun i => .str ⟨#[z.cps.getD i 0]⟩) (fun i => (z.cps.toList[i]?.map f).getD stop) (fun i H hi k => hi) (fun i H x H' hi k y => ?_) (fun H k => Nat.le_refl _) (fun i H R R0 hi k hR => ?_) fun H' k => ?_
  · obtain ⟨e1, c, e2, e3⟩ := y
    refine ⟨?_, e1⟩
    rw [e3, Array.getD_eq_getD_getElem?, e2]
    rfl
  · have hi' : i < z.cps.toList.length := by rw [← sz]; exact hi
    have e : z.cps.getD i 0 = z.cps.toList[i] := by
      rw [Array.getD_eq_getD_getElem?, ← Array.getElem?_toList, List.getElem?_eq_getElem hi']
      rfl
    rw [List.getElem?_eq_getElem hi'] at hR
    show g (.str ⟨#[z.cps.getD i 0]⟩) _ _ _
    rw [e]
    exact hs _ H R R0 (List.getElem_mem hi') (k12.trans k) ((k12.trans k).t hT) hR
  · rw [sz, range_any, range_all]
    exact q H' (k12.trans k)

/-! ### defs that hold a generator expression -/
section
variable {P : Program} {w : World} {K : PySem.W.Frag} {mg : Str → Option Value} {b : Heap}
theorem keepsT {x qual : Str} {st : Stmt} {f c : Addr} {fd : FuncData} {N ps : List Str} {k : Nat} {sp : Sp} (F : Fun K x qual st f fd) (hc : fd.code = .ref c) (S : FnScope N ps (defScope st))
    (len : ∀ vs H Q E, sp vs H Q E → vs.length = ps.length)
    (body : ∀ (A : Around) (o : List Env) (s : Shared) (H : Hp) (vs : List V) (Q : VK) (E : XK), Rm k (A.deeper (envOfC qual (defScope st) s.heap.objs.size f (.ref c))) → sp vs H Q E →
      ∃ t, PSs (cxOf CX0 P w K mg b N qual (defScope st) f (.ref c) A o s H E).nox (defBody st) t ∧ t { nx := fun _ H' => Q .non H', rt := Q } (start N vs) H) :
    Keeps P w K mg b CX0 (k + 1) f fd ps sp := by
  obtain ⟨oc, od, kV, doc, pm, an, cdv, ct, osl, rfl, lk, hcd⟩ := F.ex
  obtain rfl : cdv = .ref c := hc
  refine ⟨len, fun A o s H g us vs Q E hr e0 hb r hsp => ?_⟩
  have hl := len _ _ _ _ hsp
  have up : ∀ {a : Addr} {ob : Obj}, b.get? a = some ob → s.heap.get? a = some ob := fun {a ob} q => (e0.bs a ob q).1
  have inK : K.In s.heap := e0.mod.kin.keeps fun _ _ q => up q
  have nolim : s.heap.NoLimit := e0.mod.nolimit.keeps fun _ _ q => up q
  have kinds : ∀ y ∈ ps.zip us, (defScope st).names.lookup y.1 = some .local ∨ ((defScope st).names.lookup y.1 = some .cell ∧ ((cellsFrom (s.heap.objs.size + 1) (defScope st).names []).lookup y.1).isSome = true) := by
    rintro ⟨n, v⟩ hy
    have hn := S.par n (List.of_mem_zip hy).1
    exact hn.imp id fun q => ⟨q, PySem.W.cellsFrom_some _ _ _ (.inl q)⟩
  have recd := PySem.W.codeRec_of inK hcd
  refine codeAny_call_function hr.rm.depth (inK _ _ lk) rfl S.co S.gen rfl recd (hb _ _ _ _ ?_)
  refine wpAny_newFunctionEnv_cells S.kind kinds ?_
  intro env he s1 y
  subst he
  refine ⟨nolim.keeps y.toInCall.keep, codeAny_func ?_⟩
  obtain ⟨t, ht, hq⟩ := body A o s H vs Q E (hr.deep _) hsp
  have I := inv_start (CX := CX0) (E := E) S hr.rm.hd e0 hl r y
  refine wpAny_mono (ht.nox.run [] s1 (start N vs) H _ I hq) ?_ fun _ _ q => q
  intro fl s' hs
  match fl, hs with
  | .ret u, hs =>
    obtain ⟨v, σ', H', J, rv, q⟩ := hs
    exact ⟨v, H', J.os, J.bare, J.base, J.hok, rv, q⟩
  | .next, hs =>
    obtain ⟨σ', H', J, q⟩ := hs
    exact ⟨.non, H', J.os, J.bare, J.base, J.hok, rfl, q⟩
  | .brk, hs => exact hs.elim fun _ z => z.elim fun _ y => y.2.elim
  | .cont, hs => exact hs.elim fun _ z => z.elim fun _ y => y.2.elim
end

/-! ### the end, with tables -/
/-- what may be tracked at the beginning: the script, locked, and the tables -/
def OnlyT (L : List Addr) (H : Hp) : Prop := ∀ b, H b = none ∨ (b ∈ L ∧ H b = some (.tbl #[])) ∨ ∃ o xs, H b = some (.frz o (.lst xs))
/-- the table of the code object at c, no object of the module's own -/
def tabIn (K : PySem.W.Frag) (c : Addr) : Option Addr := match K.lookup c with
  | some o => match o.data with
    | .fields vs => match vs[11]? with
      | some (Value.ref P) => if (K.lookup P).isNone then some P else none
      | _ => none
    | _ => none
  | none => none
theorem tabIn_ok {K : PySem.W.Frag} {h : Heap} {c P P' : Addr} (hK : K.In h) (e : tabIn K c = some P) (t : h.TableAt c P' #[]) : P' = P ∧ K.lookup P = none := by
  unfold tabIn at e
  split at e
  · rename_i o lk
    have ho := hK _ _ lk
    obtain ⟨⟨o', vs', e1, _, e3, e4⟩, _⟩ := t
    rw [ho] at e1
    cases e1
    rw [e3] at e
    dsimp only at e
    rw [e4] at e
    dsimp only at e
    split at e
    · rename_i hn
      cases e
      exact ⟨rfl, Option.isNone_iff_eq_none.mp hn⟩
    · cases e
  · cases e
theorem endT {P : Program} {w : World} {K : PySem.W.Frag} {mg mb : Str → Option Value} {k : Nat} {fa a : Addr} {fd : FuncData} {x : Str} {cs : List (Addr × Addr)} {sp : Sp} {s : Shared} {vs : List Value} {ns : List Int}
    (KX : K.In s.heap) (hns : s.heap.Ns mainGlobals mg) (hb : s.heap.Ns builtinsNs mb) (hbb : ∀ x : Str, x ≠ "__name__" → mb x = bootBuiltins x) (hlim : s.heap.NoLimit) (hg : s.gens = #[])
    (tab : ∀ p ∈ cs, s.heap.IsCode p.1 p.2 #[] ∧ s.heap.TableAt p.1 p.2 #[] ∧ K.lookup p.2 = none)
    (hbm : ∃ (bm : Addr) (ob : Obj), mg "__builtins__" = some (.ref bm) ∧ bm ≠ builtinsNs ∧ s.heap.get? bm = some ob ∧ ob.cls = .type "module" ∧ ob.dict = some builtinsNs ∧ ob.data = .plain)
    (ha : s.heap.get? a = some { cls := .type "list", data := .seq vs.toArray }) (hi : IntsAre vs ns) (hl : ns.length ≤ sizeLine) (hr : Rm k callerA)
    (F : ∀ b : Heap, K.In b → b.Ns mainGlobals mg → (∀ p ∈ cs, GxR.TabB b mg p.1 p.2) → Keeps P w K mg b CX0 k fa fd [x] sp) (hbind : ∀ (s : Shared) (u : Value), BindsTo s fd ⟨[u], []⟩ [(x, u)])
    (hsp : ∀ H : Hp, OnlyT (cs.map (·.2)) H → Tabs (cs.map (·.2)) H → SqL K H a (ns.map V.int) → sp [.ref a] H (fun v _ => v = .bl true) fun _ _ _ => False) :
    codeAny (model P w) callerA (.call (.ref fa) ⟨[.ref a], []⟩) (fun r s' => r = .ok (.ret (.bool true)) ∧ OldK s.heap s'.heap ∧ s'.os = s.os ∧ AllBare s'.gens) s := by
  have lenV := hi.length
  have rv := vals_ints hi
  have obT : ∀ b : Addr, b ∈ cs.map (·.2) → s.heap.get? b = some { cls := .none, data := .fields #[] } := fun b hm => by
    obtain ⟨p, hp, rfl⟩ := List.mem_map.mp hm
    exact (tab p hp).2.1.2
  have naT : a ∉ cs.map (·.2) := fun hm => by
    have q := obT a hm
    rw [ha] at q
    have q' := congrArg Obj.data (Option.some.inj q)
    cases q'
  let H0 : Hp := fun b => if b ∈ cs.map (·.2) then some (.tbl #[]) else if b = a ∧ K.lookup a = none then some (.frz { cls := .type "list", data := .seq vs.toArray } (.lst (ns.map V.int))) else none
  have atT : ∀ {b}, b ∈ cs.map (·.2) → H0 b = some (.tbl #[]) := fun hm => if_pos hm
  have only : OnlyT (cs.map (·.2)) H0 := fun b => by
    by_cases h1 : b ∈ cs.map (·.2)
    · exact .inr (.inl ⟨h1, if_pos h1⟩)
    · by_cases h2 : b = a ∧ K.lookup a = none
      · exact .inr (.inr ⟨_, _, (if_neg h1).trans (if_pos h2)⟩)
      · exact .inl ((if_neg h1).trans (if_neg h2))
  have where_ : ∀ b, H0 b ≠ none → b ∈ cs.map (·.2) ∨ (b = a ∧ K.lookup a = none) := fun b n => by
    by_cases h1 : b ∈ cs.map (·.2)
    · exact .inl h1
    · by_cases h2 : b = a ∧ K.lookup a = none
      · exact .inr h2
      · exact absurd ((if_neg h1).trans (if_neg h2)) n
  have tabs : Tabs (cs.map (·.2)) H0 := fun p hp => ⟨#[], atT hp, trivial⟩
  have sq : SqL K H0 a (ns.map V.int) := by
    cases q : K.lookup a with
    | none => exact .inl (.inr ⟨_, (if_neg naT).trans (if_pos ⟨rfl, q⟩)⟩)
    | some o =>
      have e := (KX a o q).symm.trans ha
      obtain rfl := Option.some.inj e
      exact .inr ⟨_, vs.toArray, _, q, rfl, rfl, rfl, by rw [List.size_toArray, lenV]; exact hl, by simpa using rv⟩
  have hok : HOk P w H0 s.heap := fun c u z => by
    rcases where_ c (by rw [z]; exact Option.some_ne_none u) with h | ⟨rfl, h⟩
    · rw [atT h] at z
      cases z
      exact obT c h
    · rw [show H0 c = _ from (if_neg naT).trans (if_pos ⟨rfl, h⟩)] at z
      cases z
      exact ⟨ha, by rw [List.length_map]; exact hl, vs, _, rv, ha⟩
  have stays : ∀ {c : Addr} {o : Obj}, s.heap.get? c = some o → (∀ u n, o.data ≠ .seq u n) → o.data ≠ .fields #[] → H0 c = none := fun {c o} e h1 h2 => by
    match q : H0 c with
    | none => rfl
    | some u =>
      rcases where_ c (by rw [q]; exact Option.some_ne_none u) with h | ⟨rfl, _⟩
      · rw [obT c h] at e
        cases e
        exact (h2 rfl).elim
      · rw [ha] at e
        cases e
        exact (h1 _ _ rfl).elim
  have dictOut : ∀ {c : Addr} {o : Obj} {es : Array DictEntry} {ep : Nat}, s.heap.get? c = some o → o.data = .dict es ep → H0 c = none := fun e d => stays e (fun u n z => by rw [d] at z; cases z) fun z => by rw [d] at z; cases z
  have ns' : ∀ {c : Addr} {m : Str → Option Value}, s.heap.Ns c m → (hidT s.heap H0).Ns c m := fun ⟨o, es, ep, e, d, r⟩ => ⟨o, es, ep, hidT_get e (dictOut e d), d, r⟩
  have kin : K.In (hidT s.heap H0) := fun c o e => by
    refine hidT_get (KX c o e) ?_
    match q : H0 c with
    | none => rfl
    | some u =>
      rcases where_ c (by rw [q]; exact Option.some_ne_none u) with h | ⟨rfl, h⟩
      · obtain ⟨p, hp, rfl⟩ := List.mem_map.mp h
        rw [(tab p hp).2.2] at e
        cases e
      · rw [h] at e
        cases e
  obtain ⟨mc, l1, l2⟩ := hlim
  have M : Mod K mg (hidT s.heap H0) := ⟨kin, ns' hns, ⟨mb, ns' hb, hbb⟩, ⟨mc, ns' l1, l2⟩⟩
  have nG : ∀ {p : Addr}, p ∈ cs.map (·.2) → mainGlobals ≠ p := fun hm z => by
    obtain ⟨o, es, ep, e, d, _⟩ := hns
    rw [z, obT _ hm] at e
    cases e
    cases d
  have TB : ∀ p ∈ cs, GxR.TabB (hidT s.heap H0) mg p.1 p.2 := fun p hp => by
    have hm : p.2 ∈ cs.map (·.2) := List.mem_map.mpr ⟨p, hp, rfl⟩
    refine ⟨?_, ?_, nG hm⟩
    · obtain ⟨o, us, file, tf, flags, tg, inF, text, tt, e1, r1, r2, r3, rest⟩ := PySem.W.CodeHd.of (tab p hp).1 (tab p hp).2.1
      refine ⟨o, us, file, tf, flags, tg, inF, text, tt, hidT_get e1 (stays e1 (fun u n z => ?_) fun z => ?_), r1, r2, r3, rest⟩
      · rw [r2] at z
        cases z
      · rw [r2] at z
        cases z
        simp at r3
    · obtain ⟨bm, ob, b1, b2, b3, b4, b5, b6⟩ := hbm
      refine ⟨bm, ob, b1, b2, fun z => ?_, fun z => ?_, hidT_get b3 (stays b3 (fun u n z => ?_) fun z => ?_), b4, b5, b6⟩
      · obtain ⟨o, es, ep, e, d, _⟩ := hns
        rw [z, e] at b3
        cases b3
        rw [d] at b6
        cases b6
      · rw [z, obT _ hm] at b3
        cases b3
        cases b6
      · rw [b6] at z
        cases z
      · rw [b6] at z
        cases z
  have e0 : Env0 P w K mg (hidT s.heap H0) callerA [] s H0 :=
    ⟨rfl, M, fun c o e => of_hidT e, Nat.le_of_eq (hidT_size _ _), trivial, fun c hc => (List.not_mem_nil hc).elim, hok, .of_eq hg⟩
  have run := (F _ kin (ns' hns) TB).run callerA [] s H0 ⟨[.ref a], []⟩ [.ref a] [.ref a] _ _ hr e0 (hbind s (.ref a)) (.cons rfl .nil) (hsp H0 only tabs sq)
  refine codeAny_mono run fun res s' hq => ?_
  match res, hq with
  | .error e, hq => exact hq.elim
  | .ok .next, hq => exact hq.elim
  | .ok .brk, hq => exact hq.elim
  | .ok .cont, hq => exact hq.elim
  | .ok (.ret u), hq =>
    obtain ⟨v, H', os, bare, un, hok', r', q⟩ := hq
    obtain rfl : v = .bl true := q
    obtain rfl : u = Value.bool true := r'
    have grown : ∀ p ∈ cs, ∃ more : Array Value, s'.heap.get? p.2 = some { cls := .none, data := .fields more } := fun p hp => by
      obtain ⟨more, z⟩ := un.tbls p.2 #[] (atT (List.mem_map.mpr ⟨p, hp, rfl⟩))
      exact ⟨_, hok' p.2 _ z⟩
    have rest : ∀ c o, c ∉ cs.map (·.2) → s.heap.get? c = some o → s'.heap.get? c = some o := fun c o hn e => by
      rcases only c with z | ⟨z, _⟩ | ⟨ob, xs, z⟩
      · exact un.keep c o e z List.not_mem_nil List.not_mem_nil
      · exact absurd z hn
      · have z1 := (hok c _ z).1
        have z2 := (hok' c _ (un.frzs c ob _ z)).1
        exact z2.trans (z1.symm.trans e)
    refine ⟨rfl, ⟨fun c o e => ?_, fun c o e => ?_⟩, os, bare⟩
    · by_cases hm : c ∈ cs.map (·.2)
      · obtain ⟨p, hp, rfl⟩ := List.mem_map.mp hm
        obtain ⟨more, g⟩ := grown p hp
        rw [obT _ hm] at e
        cases e
        exact .inr (.inl ⟨(tab p hp).2.1.isCodeTable, rfl, #[], more, rfl, by rw [Array.empty_append]; exact g⟩)
      · exact .inl (rest c o hm e)
    · by_cases hm : c ∈ cs.map (·.2)
      · obtain ⟨p, hp, rfl⟩ := List.mem_map.mp hm
        obtain ⟨more, g⟩ := grown p hp
        exact ⟨_, g⟩
      · exact ⟨o, rest c o hm e⟩
/-- a def of the text with its code object and that one's table -/
structure TabDef (q : Program) (K : PySem.W.Frag) (mg : Str → Option Value) (t : Str × Addr × Addr) : Prop where
  r : ((recsOf q).any fun e => e.name == t.1) = true
  f : ∃ (fa : Addr) (o : Obj) (fd : FuncData), mg t.1 = some (.ref fa) ∧ K.lookup fa = some o ∧ o.data = .func fd ∧ fd.code = .ref t.2.1
  t : tabIn K t.2.1 = some t.2.2
theorem walk_endT {l : PySem.W.OpenLaw} {n k : Nat} {q : Program} {loose : List Str} {XP : (Str → Option Value) → Heap → Prop} {YP : World → Heap → Prop} {d : DefRec} {K : Params → PySem.W.Frag} {sp : PySem.W.Frag → List Addr → Sp} {x : Str}
    (hn : l.most = some n) (hn2 : n ≤ sizeLine) (hdf : d.params.defaults = []) (hr : Rm k callerA) (hY : ∀ (w : World) (h : Heap), YP w h → (K w.params).In h)
    (F : ∀ (w : World) (mg : Str → Option Value) (fa : Addr) (h : Heap), (K w.params).In h → h.Ns mainGlobals mg → mg d.name = some (.ref fa) →
      ∃ (fd : FuncData) (ts : List (Str × Addr × Addr)), (∀ t ∈ ts, TabDef q (K w.params) mg t) ∧ (∀ (s : Shared) (u : Value), BindsTo s fd ⟨[u], []⟩ [(x, u)]) ∧
        ∀ b : Heap, (K w.params).In b → b.Ns mainGlobals mg → (∀ t ∈ ts, GxR.TabB b mg t.2.1 t.2.2) → Keeps l.prog w (K w.params) mg b CX0 k fa fd [x] (sp (K w.params) (ts.map fun t => t.2.2)))
    (hsp : ∀ (K : PySem.W.Frag) (L : List Addr) (H : Hp) (a : Addr) (ns : List Int), ns.length ≤ n → OnlyT L H → Tabs L H → SqL K H a (ns.map V.int) → sp K L [.ref a] H (fun v _ => v = .bl true) fun _ _ _ => False) :
    PySem.W.WalkO q loose XP YP l.row.toRowW d [] (fun f vs => PySem.call f vs) := by
  refine Att.attach_call hn hdf ?_
  intro w s₀ s₁ mg mb fa o pm cd doc a vs ns G Y ho hd hcd hmg hobj hints hlen hg
  have kin := hY w _ Y
  obtain ⟨fd, ts, hts, hb, hF⟩ := F w mg fa _ kin G.T.g hmg
  have em : (ts.map fun t => t.2).map (fun p => p.2) = ts.map fun t => t.2.2 := by rw [List.map_map]; rfl
  refine endT (cs := ts.map fun t => t.2) kin G.T.g G.T.b G.T.builtins G.T.nolimit hg (fun p hp => ?_) G.T.bmain hobj hints (Nat.le_trans hlen hn2) hr (fun b h1 h2 h3 => hF b h1 h2 fun t ht => h3 _ (List.mem_map.mpr ⟨t, ht, rfl⟩)) hb fun H hO hT hS => ?_
  · obtain ⟨t, ht, rfl⟩ := List.mem_map.mp hp
    obtain ⟨r, ⟨fa', o1, fd1, m1, k1, d1, c1⟩, tt⟩ := hts t ht
    obtain ⟨dL, hm, hnm⟩ := List.any_eq_true.mp r
    obtain ⟨a', o', fd', c', P', h1, h2, h3, h4, h5, h6⟩ := G.T.tab dL hm
    rw [show dL.name = t.1 from beq_iff_eq.mp hnm, m1] at h1
    cases h1
    have g1 := kin _ _ k1
    rw [g1] at h2
    cases h2
    rw [d1] at h3
    cases h3
    rw [c1] at h4
    cases h4
    obtain ⟨e1, e2⟩ := tabIn_ok kin tt h6
    subst e1
    exact ⟨h5, h6, e2⟩
  · rw [em] at hO hT
    exact hsp _ _ H a ns hlen hO hT hS
theorem Scr.ofT {K : PySem.W.Frag} {L : List Addr} {H : Hp} {a : Addr} {xs : List V} (o : OnlyT L H) (h : SqL K H a xs) : Scr K H a xs := by
  rcases h with (h | h) | h
  · rcases o a with z | ⟨_, z⟩ | ⟨ob, ys, z⟩
    · exact nomatch z.symm.trans h
    · exact nomatch z.symm.trans h
    · exact nomatch z.symm.trans h
  · exact .inl h
  · exact .inr h
theorem Scr.kt {K : PySem.W.Frag} {L : List Addr} {H H' : Hp} {a : Addr} {xs : List V} (h : Scr K H a xs) (ht : Tabs L H) (k : KT L H H') : Scr K H' a xs :=
  h.elim (fun ⟨o, e⟩ => .inl ⟨o, k.k _ _ (ht.nin e fun ps z => nomatch z) e⟩) .inr
theorem Tup.kt {L : List Addr} {H H' : Hp} {a : Addr} {xs : List V} (h : Tup H a xs) (ht : Tabs L H) (k : KT L H H') : Tup H' a xs := h.keep k.k (ht.noTup _ _ h)
end Wg

/-! Wagon, part 32: a text times a number, list of a text, upper; signs. -/
namespace Wg
open PySem PySem.Spec PyProof.Rows L2
section
variable {X : Cx}
/-- text * number -/
def uMulS : R2 := fun x y H Q => ∃ (z : Str) (n : Int), x = .str z ∧ y = .int n ∧ 2 ≤ n ∧ n ≤ 100000 ∧ z.length ≠ 0 ∧ z.length * n.toNat ≤ 1000000 ∧ Q (.str ⟨(List.replicate n.toNat z.cps).foldl (· ++ ·) #[]⟩) H
theorem op_uMulS : OpR X (binaryOp .Mult) uMulS := by
  intro pins s σ H x y v u Q I rx ry h
  obtain ⟨z, n, rfl, rfl, h1, h2, h3, h4, q⟩ := h
  obtain ⟨t, rfl⟩ := rx
  obtain ⟨t', rfl⟩ := ry
  have nn : ¬ n < 1 := by omega
  have n1 : (n == 1 || z.length == 0) = false := by
    rw [Bool.or_eq_false_iff]
    exact ⟨beq_false_of_ne (by omega), beq_false_of_ne h3⟩
  have tl : Builtin.Str.tooLong (z.length * n.toNat) = false := by
    unfold Builtin.Str.tooLong
    exact decide_eq_false (Nat.not_lt.mpr (len_le h4))
  refine PySem.P.mul_str ?_ (fun _ _ => ?_) (fun _ _ => tl) ?_
  · rw [decide_eq_false (by omega), decide_eq_false (by omega)]
    rfl
  · have : z.length ≤ 1000000 := Nat.le_trans (Nat.le_mul_of_pos_right _ (by omega)) h4
    have e : (92233720368547 : Int) ≤ (2 ^ 63 - 1) / n := by
      rw [Int.le_ediv_iff_mul_le (by omega)]
      omega
    omega
  · rw [if_neg nn, if_neg (by rw [n1]; exact Bool.false_ne_true)]
    refine ⟨?_, ⟨.str _, H, I.tok _, ⟨_, rfl⟩, q⟩⟩
    exact PySem.fits_reps tl
def uUpper : V → List V → Hp → VK → Prop := fun x xs H Q => ∃ a, x = .str a ∧ xs = [] ∧ a.length ≤ 5592405 ∧ Q (.str (Txt.upper a)) H
theorem pe_uUpper {o : Expr} {to : TE} {apos pos : Pos} (ho : PE X o to) (hbase : attributeBase o "upper" X.env (eval o X.env) = eval o X.env := by rfl) (hline : (apos.endLine == pos.line) = true := by rfl) :
    PE X (.Call (.Attribute o "upper" apos) [] [] pos) (tM0 uUpper to) := pe_upper ho hbase hline
/-- list(text) -/
def uListZ : List V → Hp → VK → Prop := fun xs H Q => ∃ z : Str, xs = [.str z] ∧ z.length ≤ 1000000 ∧ Mk H (.lst (z.cps.toList.map fun c => .str ⟨#[c]⟩)) Q
theorem call_uListZ (hc : X.calm = true) : CallR X (.type "list") uListZ := by
  intro pins s σ H xs us Q I r h
  obtain ⟨z, rfl, hz, q⟩ := h
  obtain ⟨u, rfl, rx⟩ := vals1 r
  obtain ⟨t, rfl⟩ := rx
  refine call_list_str (I.ok.hd hc) z t (fun h' tk acc c' hk e hi => ?_) (len_le hz)
  have hl : (z.cps.toList.map fun c => V.str ⟨#[c]⟩).length = acc.toList.length := by
    rw [List.length_map, Array.length_toList, Array.length_toList]
    exact hi.1.symm
  refine ⟨.ref s.heap.objs.size, upd H s.heap.objs.size (.lst (z.cps.toList.map fun c => .str ⟨#[c]⟩)), I.laid hk (Nat.le_refl _) ⟨by rw [List.length_map, Array.length_toList]; exact len_le hz, acc.toList, c', ?_, by rw [Array.toArray_toList]; exact e⟩, rfl, q.at _ (I.hok.fresh (Nat.le_refl _))⟩
  refine vals_of_idx _ _ hl.symm fun j u hj => ?_
  obtain ⟨c, t', hc, rfl⟩ := hi.2 j u (by rw [← Array.getElem?_toList]; exact hj)
  refine ⟨.str ⟨#[c]⟩, ?_, ⟨_, rfl⟩⟩
  rw [List.getElem?_map, Array.getElem?_toList, hc]
  rfl
end
end Wg

/-! Wagon, part 33: f-strings, partition, int(text), texts cut, == of texts. -/
namespace Wg
open PySem PySem.Spec PyProof.Rows L2 PySem.W
open Builtin Builtin.Str Builtin.Int
/-- a number below a hundred by two figures -/
def two (n : Nat) : Str := ⟨#[48 + n / 10, 48 + n % 10]⟩
section
variable {prog : Program} {w : World} {A : Around} {E : Value → Shared → Prop} {s : Shared}
theorem field_02 {n : Nat} (hn : n < 60) {t : Tok} {Q : Value → Shared → Prop} (h : ∀ t' k, Q (.str (two n) t') { s with toks := k }) : wpAny (model prog w) A (formatField (.int (n : Nat) t) "02d") Q E s := by
  have c : n = 0 ∨ n = 1 ∨ n = 2 ∨ n = 3 ∨ n = 4 ∨ n = 5 ∨ n = 6 ∨ n = 7 ∨ n = 8 ∨ n = 9 ∨ n = 10 ∨ n = 11 ∨ n = 12 ∨ n = 13 ∨ n = 14 ∨ n = 15 ∨ n = 16 ∨ n = 17 ∨ n = 18 ∨ n = 19 ∨ n = 20 ∨ n = 21 ∨ n = 22 ∨ n = 23 ∨ n = 24 ∨ n = 25 ∨ n = 26 ∨ n = 27 ∨ n = 28 ∨ n = 29 ∨ n = 30 ∨ n = 31 ∨ n = 32 ∨ n = 33 ∨ n = 34 ∨ n = 35 ∨ n = 36 ∨ n = 37 ∨ n = 38 ∨ n = 39 ∨ n = 40 ∨ n = 41 ∨ n = 42 ∨ n = 43 ∨ n = 44 ∨ n = 45 ∨ n = 46 ∨ n = 47 ∨ n = 48 ∨ n = 49 ∨ n = 50 ∨ n = 51 ∨ n = 52 ∨ n = 53 ∨ n = 54 ∨ n = 55 ∨ n = 56 ∨ n = 57 ∨ n = 58 ∨ n = 59 := by omega
  rcases c with rfl | rfl | rfl | rfl | rfl | rfl | rfl | rfl | rfl | rfl | rfl | rfl | rfl | rfl | rfl | rfl | rfl | rfl | rfl | rfl | rfl | rfl | rfl | rfl | rfl | rfl | rfl | rfl | rfl | rfl | rfl | rfl | rfl | rfl | rfl | rfl | rfl | rfl | rfl | rfl | rfl | rfl | rfl | rfl | rfl | rfl | rfl | rfl | rfl | rfl | rfl | rfl | rfl | rfl | rfl | rfl | rfl | rfl | rfl | rfl
  all_goals (refine KXf.field_int (spec' := "02d") rfl (by decide +kernel) (by decide +kernel) ?_ h; kxf_run_i)
end
section
variable {X : Cx}
/-- {x:02d} of a number below sixty -/
def tFmt02 (te : TE) : TE := fun σ H Q => te σ H fun x H1 => ∃ n : Nat, x = .int (n : Nat) ∧ n < 60 ∧ Q (.str (two n)) H1
theorem pe_fmt02 {e sp : Expr} {te : TE} {pos : Pos} (he : PE X e te) (hs : PE X sp (tC (.str "02d"))) : PE X (.FormattedValue e (-1) (some sp) pos) (tFmt02 te) := by
  refine ⟨fun pins s σ H Q I h => ?_⟩
  refine wpAny_FormattedValue_spec (thn (he.run pins s σ H _ I h) fun v s1 hv => ?_)
  obtain ⟨x, H1, I1, r1, n, rfl, hn, q⟩ := hv
  obtain ⟨t, rfl⟩ := r1
  refine thn (hs.run pins s1 σ H1 (fun x H2 => x = .str "02d" ∧ H2 = H1) I1 ⟨rfl, rfl⟩) fun r s2 hr => ?_
  obtain ⟨y, H2, I2, r2, rfl, rfl⟩ := hr
  obtain ⟨t2, rfl⟩ := r2
  exact ⟨_, _, rfl, field_02 hn fun t' k => ⟨.str (two n), H2, I2.tok _, ⟨_, rfl⟩, q⟩⟩
def tJoined (ts : List TE) : TE := fun σ H Q => tJs ts Str.empty σ H fun out H1 => Q (.str out) H1
theorem pe_joinedU {v1 v2 : Expr} {rest : List Expr} {ts : List TE} {pos : Pos} (h : PJ X (v1 :: v2 :: rest) ts) : PE X (.JoinedStr (v1 :: v2 :: rest) pos) (tJoined ts) := pe_joined h
/-- partition -/
def uPartition : V → List V → Hp → VK → Prop := fun x xs H Q => ∃ a b, x = .str a ∧ xs = [.str b] ∧ (b.length == 0) = false ∧ a.length ≤ sizeLine ∧
  ∀ p, H p = none → Q (.ref p) (upd H p (.tup [.str (Txt.partition a b).1, .str (Txt.partition a b).2.1, .str (Txt.partition a b).2.2]))
theorem pe_uPartition {o e : Expr} {to te : TE} {apos pos : Pos} (ho : PE X o to) (he : PE X e te) (hs : starEach [e] X.env = [(false, eval e X.env)] := by rfl) (hbase : attributeBase o "partition" X.env (eval o X.env) = eval o X.env := by rfl) (hline : (apos.endLine == pos.line) = true := by rfl) :
    PE X (.Call (.Attribute o "partition" apos) [e] [] pos) (tM1 uPartition to te) := pe_partition ho he hs hbase hline
/-- int(text) -/
def uIntS : List V → Hp → VK → Prop := fun xs H Q => ∃ a n, xs = [.str a] ∧ PySem.intText? a = some n ∧ a.length ≤ 640 ∧ Q (.int n) H
theorem call_uIntS : CallR X (.type "int") uIntS := call_int_str
end
end Wg

/-! Wagon, part 34: divmod. -/
namespace Wg
open PySem PySem.Spec PyProof.Rows L2
def uDivmod : List V → Hp → VK → Prop := fun xs H Q => ∃ i j, xs = [.int i, .int j] ∧ CDiv i j ∧ ∀ p, H p = none → Q (.ref p) (upd H p (.tup [.int (i / j), .int (i % j)]))
theorem call_uDivmod {X : Cx} : CallR X (.builtin "divmod") uDivmod := call_divmod
end Wg

/-! Wagon, part 35: < of texts. -/
namespace Wg
open PySem PySem.Spec PyProof.Rows L2
def uLtS : V → V → Hp → VK → Prop := fun x y H Q => ∃ i j, x = .str i ∧ y = .str j ∧ Q (.bl (decide (i.cps.toList < j.cps.toList))) H
theorem op_uLtS {X : Cx} : OpR X (compareOp .Lt) uLtS := op_lt_str
end Wg

/-! Wagon, part 36: repr of a tuple of data in which empty dicts may stand, at any depth. -/
namespace Wg
open PySem PySem.Spec PyProof.Rows L2
mutual
/-- data whose lists are the law's own, with empty dicts -/
inductive Dq (K : PySem.W.Frag) (H : Hp) : V → PyData → Prop
  | dp {v : V} {d : PyData} : Dp K H v d → Dq K H v d
  | lst {a : Addr} {xs : List V} {ds : List PyData} : H a = some (.lst xs) → DqAll K H xs ds → Dq K H (.ref a) (.list ds)
  | tup {a : Addr} {xs : List V} {ds : List PyData} : Tup H a xs → DqAll K H xs ds → Dq K H (.ref a) (.tuple ds)
  | dic {a : Addr} : H a = some (.dK []) → Dq K H (.ref a) (.dict [])
inductive DqAll (K : PySem.W.Frag) (H : Hp) : List V → List PyData → Prop
  | nil : DqAll K H [] []
  | cons {v : V} {vs : List V} {d : PyData} {ds : List PyData} : Dq K H v d → DqAll K H vs ds → DqAll K H (v :: vs) (d :: ds)
end
/-- what the heap tells of one value, of a row of them -/
structure Told (P : Program) (w : World) (h : Heap) (v : Value) (d : PyData) : Prop where
  r : ∃ as, Reads h v d as
  k : d.showable = true → d.shown.length ≤ sizeLine → ∃ bs, ReadAtMost h d.depth bs ∧ ReprK P w bs h d.depth v d.shown
structure ToldAll (P : Program) (w : World) (h : Heap) (vs : List Value) (ds : List PyData) : Prop where
  r : ∃ as, ReadsAll h vs ds as
  k : PyData.showableAll ds = true → (∀ t ∈ PyData.shownAll ds, t.length ≤ sizeLine) → ∃ bs, ReadAtMost h (PyData.depthAll ds) bs ∧ ReprAllK P w bs h (PyData.depthAll ds) vs (PyData.shownAll ds)
section
variable {P : Program} {w : World} {h : Heap}
theorem ToldAll.none : ToldAll P w h [] [] := ⟨⟨_, .nil⟩, fun _ _ => ⟨[], (fun _ z => nomatch z), by simp only [PyData.shownAll]; exact .nil⟩⟩
theorem ToldAll.more {v : Value} {vs : List Value} {d : PyData} {ds : List PyData} (a : Told P w h v d) (b : ToldAll P w h vs ds) : ToldAll P w h (v :: vs) (d :: ds) := by
  obtain ⟨as, ra⟩ := a.r
  obtain ⟨bs, rb⟩ := b.r
  refine ⟨⟨_, .cons ra rb⟩, fun hs hz => ?_⟩
  rw [show PyData.showableAll (d :: ds) = (d.showable && PyData.showableAll ds) by simp only [PyData.showableAll], Bool.and_eq_true] at hs
  have es : PyData.shownAll (d :: ds) = d.shown :: PyData.shownAll ds := by simp only [PyData.shownAll]
  have ed : PyData.depthAll (d :: ds) = max d.depth (PyData.depthAll ds) := by simp only [PyData.depthAll]
  rw [es] at hz ⊢
  rw [ed]
  obtain ⟨x, hx, kx⟩ := a.k hs.1 (hz _ List.mem_cons_self)
  obtain ⟨y, hy, ky⟩ := b.k hs.2 fun t ht => hz t (List.mem_cons_of_mem _ ht)
  exact ⟨x ++ y, (hx.mono (Nat.le_max_left _ _)).append (hy.mono (Nat.le_max_right _ _)), .cons ((kx.more fun b hb => List.mem_append_left _ hb).level_le (Nat.le_max_left _ _)) (ky.more_le (fun b hb => List.mem_append_right _ hb) (Nat.le_max_right _ _))⟩
theorem Told.list {a : Addr} {o : Obj} {n : Nat} {its : List Value} {ds : List PyData} (e : h.get? a = some o) (c : o.cls = .type "list") (dd : o.data = .seq its.toArray n) (t : ToldAll P w h its ds) : Told P w h (.ref a) (.list ds) := by
  obtain ⟨as, ra⟩ := t.r
  have r : Reads h (.ref a) (.list ds) (a :: as) := .list e c dd ra
  refine ⟨⟨_, r⟩, fun hs hz => ?_⟩
  have eD : (PyData.list ds).depth = PyData.depthAll ds + 1 := by simp only [PyData.depth]
  have eS : (PyData.list ds).shown = listText (PyData.shownAll ds) := by simp only [PyData.shown]
  rw [eS] at hz ⊢
  obtain ⟨bs, hb, hk⟩ := t.k (by simpa only [PyData.showable] using hs) fun x hx => Nat.le_trans (listText_mem_le hx) hz
  have hna : a ∉ bs := not_mem_of_deeper r (by rw [eD]; omega) hb
  refine ⟨a :: bs, ReadAtMost.cons r (by rw [eD]; omega) hb, ?_⟩
  rw [eD]
  cases its with
  | nil =>
    cases ra
    rw [show PyData.shownAll [] = [] by simp only [PyData.shownAll], listText_nil]
    exact ReprK.listEmpty e c dd
  | cons x l => exact ReprK.list e c dd hna (by simpa using hk.length_eq) fun i y q => hk.item i y (by simpa using q)
theorem Told.tuple {a : Addr} {o : Obj} {n : Nat} {its : List Value} {ds : List PyData} (e : h.get? a = some o) (c : o.cls = .type "tuple") (dd : o.data = .seq its.toArray n) (t : ToldAll P w h its ds) : Told P w h (.ref a) (.tuple ds) := by
  obtain ⟨as, ra⟩ := t.r
  have r : Reads h (.ref a) (.tuple ds) as := .tuple e c dd ra
  refine ⟨⟨_, r⟩, fun hs hz => ?_⟩
  have eD : (PyData.tuple ds).depth = PyData.depthAll ds + 1 := by simp only [PyData.depth]
  have eS : (PyData.tuple ds).shown = tupleText (PyData.shownAll ds) := by simp only [PyData.shown]
  rw [eS] at hz ⊢
  obtain ⟨bs, hb, hk⟩ := t.k (by simpa only [PyData.showable] using hs) fun x hx => Nat.le_trans (tupleText_mem_le hx) hz
  have hna : a ∉ bs := not_mem_of_deeper r (by rw [eD]; omega) hb
  refine ⟨a :: bs, ReadAtMost.cons r (by rw [eD]; omega) hb, ?_⟩
  rw [eD]
  exact ReprK.tuple e c dd hna hk
end
section
variable {X : Cx} {pins : List (Addr × Obj)} {σ : L2.St} {H : Hp} {s : Shared}
theorem told_dp (I : Inv X pins σ H s) {v : V} {d : PyData} {u : Value} (h : Dp X.K H v d) (r : RelV v u) : Told X.prog X.w s.heap u d := by
  obtain ⟨as, rd⟩ := Dp.reads I d v u h r
  exact ⟨⟨_, rd⟩, fun hs hz => ReprK.of_reads rd hs (PyData.noDict_hsm (dp_noDict h)) hz⟩
theorem told_dic (I : Inv X pins σ H s) {a : Addr} (h : H a = some (.dK [])) : Told X.prog X.w s.heap (.ref a) (.dict []) := by
  obtain ⟨z, hsy, ws, kv, o, es, ep, ho, ex, hdat, _, hp, _⟩ := I.hok a _ h
  obtain ⟨r1, r2⟩ := pairs_reads (K := X.K) I hp kv (ds := []) .nil
  have rd : Reads s.heap (.ref a) (PyData.dict []) (a :: [] ++ []) := .dict ho ex.1 hdat r1 r2
  refine ⟨⟨_, rd⟩, fun hs hz => ReprK.of_reads rd hs (fun _ hm => ?_) hz⟩
  have e : sysModules = a := by simpa using hm
  rw [e] at hsy
  simp at hsy
mutual
theorem Dq.told (I : Inv X pins σ H s) : ∀ (d : PyData) (v : V) (u : Value), Dq X.K H v d → RelV v u → Told X.prog X.w s.heap u d
  | .list ds, _, _, h, r => by
    cases h with
    | dp h => exact told_dp I h r
    | lst hs ha =>
      cases r
      obtain ⟨its, rv, ⟨o, n, ho, hc, _, hd⟩, _⟩ := I.list (lst_sq (K := X.K) hs)
      exact Told.list ho hc hd (DqAll.told I ds _ its ha rv)
  | .tuple ds, _, _, h, r => by
    cases h with
    | dp h => exact told_dp I h r
    | tup hs ha =>
      cases r
      obtain ⟨its, n, rv, _, ho⟩ := hs.obj I
      exact Told.tuple ho rfl rfl (DqAll.told I ds _ its ha rv)
  | .dict _, _, _, h, r => by
    cases h with
    | dp h => exact told_dp I h r
    | dic e => cases r; exact told_dic I e
  | .none, _, _, h, r => by cases h with | dp h => exact told_dp I h r
  | .bool _, _, _, h, r => by cases h with | dp h => exact told_dp I h r
  | .int _, _, _, h, r => by cases h with | dp h => exact told_dp I h r
  | .str _, _, _, h, r => by cases h with | dp h => exact told_dp I h r
theorem DqAll.told (I : Inv X pins σ H s) : ∀ (ds : List PyData) (vs : List V) (us : List Value), DqAll X.K H vs ds → Vals vs us → ToldAll X.prog X.w s.heap us ds
  | [], _, _, h, r => by
    cases h
    cases r
    exact ToldAll.none
  | d :: ds, _, _, h, r => by
    cases h with
    | cons h1 h2 =>
      cases r with
      | cons r1 r2 => exact ToldAll.more (Dq.told I d _ _ h1 r1) (DqAll.told I ds _ _ h2 r2)
end
end
/-- repr of a tuple of such data -/
def uReprQ (K : PySem.W.Frag) : List V → Hp → VK → Prop := fun xs H Q => ∃ (a : Addr) (vs : List V) (ds : List PyData), xs = [.ref a] ∧ Tup H a vs ∧ DqAll K H vs ds ∧ fine (.tuple ds) ∧ (PyData.tuple ds).depth ≤ 100 ∧ cost (.tuple ds) ≤ 10000000 ∧ Q (.str (PyData.tuple ds).shown) H
theorem call_uReprQ {X : Cx} (hr : Rm 1 X.A) : CallR X (.builtin "repr") (uReprQ X.K) := by
  intro pins s σ H xs us Q I r h
  obtain ⟨a, vs, ds, rfl, ht, hd, hf, hdep, hz, q⟩ := h
  obtain ⟨u, rfl, rx⟩ := vals1 r
  cases rx
  obtain ⟨its, n, rv, _, ho⟩ := ht.obj I
  have t := DqAll.told I ds _ its hd rv
  have hu : X.A.units + ((PyData.tuple ds).depth + 1) < cLine := by
    have := hr.rm.un
    omega
  have eS : (PyData.tuple ds).shown = tupleText (PyData.shownAll ds) := by simp only [PyData.shown]
  have eD : (PyData.tuple ds).depth = PyData.depthAll ds + 1 := by simp only [PyData.depth]
  have hs := fine_show hf
  have hz' : (PyData.tuple ds).shown.length ≤ sizeLine := Nat.le_trans (shown_le hf) (line_big hz)
  rw [eS] at hz'
  obtain ⟨as, ra⟩ := t.r
  obtain ⟨bs, hb, hk⟩ := t.k (by simpa only [PyData.showable] using hs) fun x hx => Nat.le_trans (tupleText_mem_le hx) hz'
  have rr : Reads s.heap (.ref a) (.tuple ds) as := .tuple ho rfl rfl ra
  have hna : a ∉ bs := not_mem_of_deeper rr (by rw [eD]; omega) hb
  refine call_repr_slot (T := "tuple") (idr := "tuple.__repr__") (by omega) ⟨_, ho, rfl⟩ F.slot_tuple_repr (call_tuple_reprK ho rfl rfl hna hk hr.gd (fun b _ => Clear.nil b) (by show X.A.units + 1 + _ < cLine; omega) (fun _ _ e => e) (fun h' u tk hkp => ⟨_, _, rfl, ?_⟩) hz')
  rw [← eS]
  exact ⟨.str _, H, I.kept (t' := tk) hkp, ⟨_, rfl⟩, q⟩
end Wg

/-! Wagon, part 37: list.insert. -/
namespace Wg
open PySem PySem.Spec PyProof.Rows L2
def uInsert : V → List V → Hp → VK → Prop := fun x vs H Q => ∃ (l : Addr) (xs : List V) (i : Int) (y : V), x = .ref l ∧ vs = [.int i, y] ∧ H l = some (.lst xs) ∧ xs.length < sizeLine ∧ 0 ≤ i ∧ i < 2 ^ 63 ∧
  Q .non (upd H l (.lst (xs.take i.toNat ++ [y] ++ xs.drop i.toNat)))
theorem mt_uInsert {X : Cx} : MtR X "list.insert" uInsert := mt_insert
theorem g_insert {l : Addr} {xs : List V} {i : Int} {y : V} {H : Hp} {Q : VK} (h : H l = some (.lst xs)) (z : xs.length < sizeLine) (h0 : 0 ≤ i) (h1 : i < 2 ^ 63) (q : ∀ H', Keep [l] H H' → H' l = some (.lst (xs.take i.toNat ++ [y] ++ xs.drop i.toNat)) → Q .non H') : uInsert (.ref l) [.int i, y] H Q := ⟨l, xs, i, y, rfl, rfl, h, z, h0, h1, q _ Keep.set upd_same⟩
end Wg

/-! Wagon, part 38: t[::-1] of a tuple. -/
namespace Wg
open PySem PySem.Spec PyProof.Rows L2
section
variable {prog : Program} {w : World} {A : Around} {E : Value → Shared → Prop} {s : Shared}
theorem applied_rev {sl : Addr} {vl vu vs : Value} {n : Nat} {Q : Int × Int × Nat → Shared → Prop} (hs : s.heap.IsSliceOf sl vl vu vs) (pl : IsPart vl none) (pu : IsPart vu none) (ps : IsPart vs (some (-1)))
    (h : Q ((n : Int) - 1, -1, n) s) : wpAny (model prog w) A (Builtin.Slice.sliceApplied (.ref sl) (pure (n : Int))) Q E s := by
  obtain ⟨os, hos, hcs, hds⟩ := id hs
  unfold Builtin.Slice.sliceApplied Builtin.Slice.sliceFields
  refine wpAny_bind (wpAny_bind (wpAny_field hos hds (x := vl) rfl (wpAny_bind (wpAny_field hos hds (x := vu) rfl (wpAny_bind (wpAny_field hos hds (x := vs) rfl (wpAny_pure ?_)))))))
  refine wpAny_bind (HT.slicePart_ ps ?_)
  show wpAny _ _ (if ((-1 : Int) == 0) = true then _ else _) _ _ s
  rw [if_neg (by decide)]
  refine wpAny_bind (HT.slicePart_ pl (wpAny_bind (HT.slicePart_ pu (wpAny_bind (wpAny_pure ?_)))))
  show wpAny _ _ (pure ((n : Int) - 1, (-1 : Int), Builtin.Slice.slicePlaces ((n : Int) - 1) (-1) (-1))) _ _ s
  have e : Builtin.Slice.slicePlaces ((n : Int) - 1) (-1) (-1) = n := by
    unfold Builtin.Slice.slicePlaces
    rw [if_neg (by decide)]
    by_cases hn : (n : Int) - 1 > -1
    · rw [if_pos hn, show (- -1 : Int) = 1 by decide, Int.ediv_one]
      omega
    · rw [if_neg hn]
      omega
  rw [e]
  exact wpAny_pure h
theorem pick_rev (xs : Array Value) : ((List.range xs.size).filterMap fun (m : Nat) => xs[((xs.size : Int) - 1 + (m : Int) * (-1)).toNat]?).toArray = xs.toList.reverse.toArray := by
  have e : (List.range xs.size).filterMap (fun (m : Nat) => xs[((xs.size : Int) - 1 + (m : Int) * (-1)).toNat]?) = ((List.range xs.size).map fun k => xs.size - 1 - k).filterMap (xs[·]?) := by
    rw [List.filterMap_map]
    refine congrArg (fun f => List.filterMap f _) ?_
    funext m
    show xs[_]? = xs[xs.size - 1 - m]?
    have : ((xs.size : Int) - 1 + (m : Int) * (-1)).toNat = xs.size - 1 - m := by omega
    rw [this]
  rw [e, PySem.W.krv_range, List.filterMap_reverse, PySem.W.krv_all]
theorem rev_tuple {t sl : Addr} {items : Array Value} {vl vu vs : Value} {Q : Value → Shared → Prop} (ht : IsTup s.heap t items) (hs : s.heap.IsSliceOf sl vl vu vs) (pl : IsPart vl none) (pu : IsPart vu none) (ps : IsPart vs (some (-1)))
    (h : Q (.ref s.heap.objs.size) { s with heap := s.heap.push { cls := .type "tuple", data := .seq items.toList.reverse.toArray } })
    (hsz : items.size ≤ sizeLine) : wpAny (model prog w) A (getItem (.ref t) (.ref sl)) Q E s := by
  have htake : sizeOk (.seq items.toList.reverse.toArray) := by
    show items.toList.reverse.toArray.size ≤ sizeLine
    rw [List.size_toArray, List.length_reverse, Array.length_toList]
    omega
  obtain ⟨os, hos, hcs, hds⟩ := id hs
  have hTs : s.TypeIs (.ref sl) "slice" := ⟨os, hos, hcs⟩
  unfold getItem
  try with_reducible refine wpAny_holding ?_
  first | refine wpAny_bind (wpAny_pure ?_) | skip
  refine wpAny_bind (wpAny_sequenceKey ht.typeIs (by decide) ?_)
  refine wpAny_bind (wpAny_callSpecial?_slot (name := Str.ofString "__getitem__") ht.typeIs PyProof.Rows.slot_tuple_getitem
    (wpAny_call_entry PyProof.Rows.slot_tuple_getitem ht.typeIs entry_tuple_getitem ?_ (args_tuple_getitem _ _)))
  show wpAny _ _ (Builtin.Tuple.tupleItemsOf (.ref t) >>= _) _ _ s
  refine wpAny_bind (tupleItemsOf_ ht ?_)
  refine wpAny_bind (wpAny_typeOf hTs ?_)
  rw [if_pos (by decide)]
  refine wpAny_bind (applied_rev (n := items.size) hs pl pu ps ?_)
  have hno : ¬ ((((items.size : Int) - 1) == 0 && (-1 : Int) == 1 && items.size == items.size) = true) := by
    rw [show ((-1 : Int) == 1) = false by decide, Bool.and_false, Bool.false_and]
    exact Bool.false_ne_true
  show wpAny _ _ (if (((items.size : Int) - 1) == 0 && (-1 : Int) == 1 && items.size == items.size) = true then _ else _) _ _ s
  rw [if_neg hno, pick_rev]
  first
    | exact wpAny_bind (m := Builtin.Tuple.tupleExact _) (wpAny_newObj_type (wpAny_pure ⟨_, rfl, wpAny_pure h⟩) htake)
    | exact wpAny_bind (m := Builtin.Tuple.tupleExact _) (wpAny_newObj_type (wpAny_bind (wpAny_pure (wpAny_pure ⟨_, rfl, wpAny_pure h⟩))) htake)
    | exact wpAny_bind (wpAny_bind (m := Builtin.Tuple.tupleExact _) (wpAny_newObj_type (wpAny_pure (wpAny_pure ⟨_, rfl, wpAny_pure h⟩)) htake))
    | exact wpAny_bind (wpAny_bind (m := Builtin.Tuple.tupleExact _) (wpAny_newObj_type (wpAny_pure ⟨_, rfl, wpAny_pure h⟩) htake))
end
section
variable {X : Cx}
/-- xs[::-1], of a list or a tuple -/
def tRevT (K : PySem.W.Frag) (te : TE) : TE := fun σ H Q => te σ H fun x H1 => ∃ a xs, x = .ref a ∧ Tup H1 a xs ∧ Mt H1 xs.reverse Q
theorem pe_revT {e : Expr} {te : TE} {k : Nat} {p1 p2 p3 pos : Pos} (he : PE X e te) : PE X (.Subscript e (.Slice none none (some (.UnaryOp .USub (.Constant (.int 1) k p1) p2)) p3) pos) (tRevT X.K te) := by
  refine ⟨fun pins s σ H Q I h => ?_⟩
  refine Subscript_ (thn (he.run pins s σ H _ I h) fun v s1 ⟨x, H1, I1, r1, q1⟩ => ?_)
  obtain ⟨a, xs, ex, hx, q⟩ := q1
  subst ex
  cases r1
  have hst : PO X (some (.UnaryOp .USub (.Constant (.int 1) k p1) p2)) (tPart (tUn (rU fun i => .int (-i)) (tC (.int 1)))) := po_some (pe_un un_neg pe_int)
  refine wpAny_Slice (thn (po_none.run pins s1 σ H1 (fun o H2 => o = none ∧ H2 = H1) I1 ⟨rfl, rfl⟩) fun vl s2 ⟨l, H2, I2, pl, el, e2⟩ => ?_)
  subst el e2
  refine thn (po_none.run pins s2 σ H2 (fun o H3 => o = none ∧ H3 = H2) I2 ⟨rfl, rfl⟩) fun vu s3 ⟨u, H3, I3, pu, eu, e3⟩ => ?_
  subst eu e3
  refine thn (hst.run pins s3 σ H3 (fun o H4 => o = some (-1) ∧ H4 = H3) I3 ⟨1, rfl, -1, rfl, rfl, rfl⟩) fun vs s4 ⟨o, H4, I4, ps, eo, e4⟩ => ?_
  subst eo e4
  have I5 : Inv X pins σ H4 { s4 with heap := s4.heap.push { cls := .type "slice", data := .fields #[vl, vu, vs] } } := I4.kept (t' := s4.toks) fun b ob q => Heap.get?_push_of_some _ q
  obtain ⟨its, r, ht, hz⟩ := I5.tuple hx.sq
  have hlen := r.length
  show wpAny (model X.prog X.w) X.A (subscriptTail e (.Slice none none (some (.UnaryOp .USub (.Constant (.int 1) k p1) p2)) p3) (.ref a) (.ref s4.heap.objs.size)) (EP X pins σ Q) X.xe { s4 with heap := s4.heap.push { cls := .type "slice", data := .fields #[vl, vu, vs] } }
  refine tail_any (ops := [.ref a, .ref s4.heap.objs.size]) ht.typeIs (PyProof.Rows.slot_tuple_getitem.lookup) ?_ (by with_unfolding_all rfl)
  refine rev_tuple ht (Heap.IsSliceOf.new _ vl vu vs) pl pu ps ?_ (by rw [List.size_toArray]; omega)
  exact mt_end (t' := s4.toks) I5 r.reverse (by rw [List.length_reverse]; exact hz) q
end
theorem g_revT {K : PySem.W.Frag} {te : TE} {σ : L2.St} {H : Hp} {Q : VK} : tRevT K te σ H Q ↔ te σ H fun x H1 => ∃ a xs, x = .ref a ∧ Tup H1 a xs ∧ Mt H1 xs.reverse Q := Iff.rfl
end Wg

/-! Wagon, part 39: len(set(t)) of a tuple of texts, some perhaps told twice. -/
namespace Wg
open PySem PySem.Spec PyProof.Rows L2
/-- how many unlike ones stand among the first i -/
def cntD {K : Type} [DecidableEq K] (ks : List K) : Nat → Nat
  | 0 => 0
  | i + 1 => match ks[i]? with
    | some k => if k ∈ ks.take i then cntD ks i else cntD ks i + 1
    | none => cntD ks i
theorem cntD_succ {K : Type} [DecidableEq K] {ks : List K} {i : Nat} {k : K} (e : ks[i]? = some k) : cntD ks (i + 1) = if k ∈ ks.take i then cntD ks i else cntD ks i + 1 := by
  show (match ks[i]? with | some k => if k ∈ ks.take i then cntD ks i else cntD ks i + 1 | none => cntD ks i) = _
  rw [e]
theorem cntD_le {K : Type} [DecidableEq K] (ks : List K) : ∀ i, cntD ks i ≤ i
  | 0 => Nat.le_refl _
  | i + 1 => by
    have := cntD_le ks i
    unfold cntD
    split
    · split <;> omega
    · omega
theorem cntD_full {K : Type} [DecidableEq K] (ks : List K) : ∀ i, i ≤ ks.length → (cntD ks i = i ↔ (ks.take i).Nodup)
  | 0, _ => by simp [cntD]
  | i + 1, h => by
    have ih := cntD_full ks i (by omega)
    have le := cntD_le ks i
    have e : ks[i]? = some ks[i] := List.getElem?_eq_getElem (by omega)
    have tk : ks.take (i + 1) = ks.take i ++ [ks[i]] := by rw [List.take_succ, e]; rfl
    rw [tk, List.nodup_append]
    unfold cntD
    rw [e]
    dsimp only
    split
    · rename_i hm
      constructor
      · intro z; omega
      · intro z; exact (z.2.2 _ hm _ (List.mem_singleton.mpr rfl) rfl).elim
    · rename_i hm
      constructor
      · intro z
        refine ⟨ih.mp (by omega), by simp, fun a ha b hb c => ?_⟩
        rw [List.mem_singleton.mp hb] at c
        exact hm (c ▸ ha)
      · intro z
        have := ih.mpr z.1
        omega
section
variable {P : Program} {w : World} {A : Around} {R : Result → Shared → Prop} {it : Addr} {near own : List Addr} {G : Array GenState → Array GenState → Prop} {n : Nat} {Pv : Nat → Value → Prop} {St : Nat → Shared → Prop}
variable {K : Type} [DecidableEq K] [BEq K] [LawfulBEq K] {kd : KeyKind P w K}
/-- what set.update does over what walks through keys of one kind -/
theorem put_any (W : WalksS P w A.in1 it near own G n Pv St) {c : Addr} (hc : c ∉ near) {ks : List K} (hl : ks.length = n) (few : n + 1 < scanBound)
    (hv : ∀ i v, Pv i v → ∃ h : i < ks.length, kd.is ks[i] v = true ∧ v.scannable = true) :
    ∀ (m i : Nat), i + m = n → ∀ s : Shared, St i s → s.heap.SetOf kd c (fun k => decide (k ∈ ks.take i)) (cntD ks i) →
      (∀ s', Moved (c :: own) G s s' → s'.heap.SetOf kd c (fun k => decide (k ∈ ks)) (cntD ks n) → R (.ok (.ret .none)) s') →
      codeAny (model P w) A (.builtin "set.update.loop" ⟨[.ref c, .ref it], []⟩) R s := by
  have nc : c ∉ own := fun h => hc (W.sub c h)
  have up : ∀ {h h' : Heap} {S : K → Bool} {q : Nat}, h.SetOf kd c S q → (∀ o, h.get? c = some o → h'.get? c = some o) → h'.SetOf kd c S q := fun x k => by
    obtain ⟨o, es, ep, t, ho, x⟩ := x
    exact ⟨o, es, ep, t, k o ho, x⟩
  intro m
  induction m with
  | zero =>
    intro i e s st hS fin
    have e : i = n := e
    subst e
    refine codeAny_builtin PyProof.Rows.F.entry_set_update_loop ?_
    rw [Around.under_plainId PyProof.Rows.F.plain_set_update_loop]
    refine wpAny_bind (m := pyNext (.ref it)) (W.done s _ _ st fun s' mv => wpAny_pure (fin s' (mv.mono fun _ h => .tail _ h) ?_))
    have := up hS fun o ho => mv.heap c o nc ho
    have all : ks.take i = ks := by rw [← hl, List.take_length]
    simpa only [all] using this
  | succ m ih =>
    intro i e s st hS fin
    refine codeAny_builtin PyProof.Rows.F.entry_set_update_loop ?_
    rw [Around.under_plainId PyProof.Rows.F.plain_set_update_loop]
    refine wpAny_bind (m := pyNext (.ref it)) (W.item i s _ _ (by omega) st fun v s1 pv st1 mv => ?_)
    obtain ⟨hi, hk, sc⟩ := hv i v pv
    refine wpAny_bind (m := holding [v] (setAdd c v)) (wpAny_holding ?_)
    unfold setAdd
    refine wpAny_holding (wpAny_bind (kd.pyHash hk ?_))
    have cl := cntD_le ks i
    refine wpAny_setAddHashed_of (s := { s1 with toks := s1.toks + 1 }) hk sc (up hS fun o ho => mv.heap c o nc ho) (by omega) fun h2 same hS2 => ?_
    have e : ks[i]? = some ks[i] := List.getElem?_eq_getElem hi
    have hS3 : h2.SetOf kd c (fun k => decide (k ∈ ks.take (i + 1))) (cntD ks (i + 1)) := by
      refine PyProof.Rows.SetOf_congr hS2 (fun k => ?_) ?_
      · rw [List.take_succ, List.getElem?_eq_getElem hi]
        simp only [Option.toList_some, List.mem_append, List.mem_singleton, Bool.decide_or]
      · show _ = cntD ks (i + 1)
        rw [cntD_succ e]
        by_cases hm : ks[i] ∈ ks.take i
        · rw [if_pos (decide_eq_true hm), if_pos hm]
        · rw [if_neg (by rw [decide_eq_true_eq]; exact hm), if_neg hm]
    refine wpAny_pure ⟨plainId_quiet PyProof.Rows.F.plain_set_update_loop _, ih (i + 1) (by omega) _ (W.frame _ s1 _ _ st1 (Nat.le_succ _) fun b hb o ho => ?_) hS3 fun s2 mv2 hS4 => ?_⟩
    · rw [same.2 b fun x => hc (x ▸ hb)]
      exact ho
    · refine fin s2 (Moved.trans W.gtrans ((mv.mono fun _ h => .tail _ h).then_heap (Nat.le_succ _) fun b o hb ho => ?_) mv2) hS4
      rw [same.2 b fun x => hb (x ▸ .head _)]
      exact ho
end
section
variable {P : Program} {w : World} {A : Around} {E : Value → Shared → Prop} {s : Shared} {K : Type} [DecidableEq K] [BEq K] [LawfulBEq K] {kd : KeyKind P w K}
theorem set_ofT {l : Addr} {vs : Array Value} {ks : List K} {Q : Value → Shared → Prop} (hh : A.handled = none) (hl : s.heap.IsTuple l vs) (hn : ks.length = vs.size) (few : vs.size + 1 < scanBound)
    (hv : ∀ (i : Nat) (v : Value), vs[i]? = some v → ∃ h : i < ks.length, kd.is ks[i] v = true ∧ v.scannable = true)
    (q : ∀ (h : Heap) (t : Nat), h.SetOf kd s.heap.objs.size (fun k => decide (k ∈ ks)) (cntD ks vs.size) → (∀ b o, b < s.heap.objs.size → s.heap.get? b = some o → h.get? b = some o) → Q (.ref s.heap.objs.size) { s with heap := h, toks := t }) :
    wpAny (model P w) A (call (.type "set") [.ref l]) Q E s := by
  obtain ⟨cl, rest, hmro⟩ := PySem.F.called_set.mro
  have f1 := PySem.F.called_set.made
  have f2 := PySem.F.called_set.sub
  have f3 := PySem.F.called_set.notType
  have f4 := PySem.F.called_set.canCreate
  have f5 := PySem.F.typeCall_set_1 (.ref l)
  have f6 := PySem.F.called_set.init.lookup
  have f7 := PySem.F.called_set.init.bind (.ref s.heap.objs.size)
  refine wpAny_call (codeAny_of_tree ?_)
  change wpAny _ _ (callAny (.type "set") _) _ _ _
  refine wpAny_pure ⟨Code.quiet_builtin _ (by decide +kernel), codeAny_builtin PySem.F.entry_type_call ?_⟩
  rw [Around.under_plain (weight_type_call_type "set" [.ref l] []) rfl]
  repeat (any_goals (first | assumption | wp_step))
  refine codeAny_mono (code_set_new_1 (.ref l) (E := E) (Q₁ := fun r s1 => ∃ b : Bool, r = .ref s.heap.objs.size ∧ s1 = { s with heap := s.heap.push { cls := .type "set", dict := none, data := .set #[] 0 (.fresh 0 0 b) } }) fun b => ⟨b, rfl, rfl⟩) fun r s1 hr => ?_
  rcases r with x | fl
  · exact hr
  cases fl with
  | ret r =>
    obtain ⟨b, rfl, rfl⟩ := hr
    have at0 : (s.heap.push { cls := .type "set", dict := none, data := .set #[] 0 (.fresh 0 0 b) }).get? s.heap.objs.size = some { cls := .type "set", dict := none, data := .set #[] 0 (.fresh 0 0 b) } := Heap.get?_push_size _ rfl
    have ty0 : Shared.TypeIs { s with heap := s.heap.push { cls := .type "set", dict := none, data := .set #[] 0 (.fresh 0 0 b) } } (.ref s.heap.objs.size) "set" := ⟨_, at0, rfl⟩
    repeat (any_goals (first | assumption | wp_step))
    refine codeAny_mono (codeAny_call_builtin (R := wants (fun r s2 => r = .none ∧ ∃ h t, s2 = { s with heap := h, toks := t } ∧ h.SetOf kd s.heap.objs.size (fun k => decide (k ∈ ks)) (cntD ks vs.size) ∧
      ∀ b o, b < s.heap.objs.size → s.heap.get? b = some o → h.get? b = some o) E) PySem.F.called_set.init.plain PySem.F.entry_set_init (check_set_init_1 ty0 ?_)) fun r2 s2 hr2 => ?_
    · obtain ⟨⟨kc, kd1, kdat, ksl⟩, g1, g2, nl, g3⟩ := hl
      simp only at g2 g3
      subst g2 g3
      have t1 := PySem.F.sub_tuple_set
      have t2 := PySem.F.sub_tuple_frozenset
      have t3 : (Value.type "tuple" == Value.type "dict") = false := by decide
      have g4 := Heap.get?_push_of_some ({ cls := .type "set", dict := none, data := .set #[] 0 (.fresh 0 0 b) } : Obj) g1
      have here : (s.heap.push { cls := .type "set", dict := none, data := .set #[] 0 (.fresh 0 0 b) }).IsTuple l vs := ⟨_, g4, rfl, nl, rfl⟩
      have low : l < s.heap.objs.size := Heap.lt_size g1
      unfold Builtin.«set.__init__» noKeywords Builtin.Frozenset.updateFrom
      generalize hpy : pyIter = py
      wp_walk
      subst hpy
      refine wpAny_pyIter_tuple here (wpAny_bind (wpAny_runValue ?_))
      have sz : (s.heap.push { cls := .type "set", dict := none, data := .set #[] 0 (.fresh 0 0 b) }).objs.size = s.heap.objs.size + 1 := Heap.size_push _ _
      have apart : l ≠ s.heap.objs.size + 1 := Nat.ne_of_lt (Nat.lt_succ_of_lt low)
      have own : s.heap.objs.size ≠ s.heap.objs.size + 1 := Nat.ne_of_lt (Nat.lt_succ_self _)
      have quiet : A.in1.in1.in1.handled = none := by simp [hh]
      refine put_any (kd := kd) ((Walks.tuple quiet _ l (by rw [sz]; exact apart) vs).toS) (c := s.heap.objs.size) (by rw [sz]; simp only [List.mem_cons, List.not_mem_nil, or_false]; exact fun x => x.elim own (Nat.ne_of_gt low)) hn few hv vs.size 0 (by omega) _
        ⟨⟨_, Heap.get?_push_size _ rfl, rfl, rfl⟩, here.push _⟩ ?_ fun s2 mv hS => ?_
      · exact PyProof.Rows.SetOf_congr ((PyProof.Rows.setObjOf_fresh (knd := kd) b).setOf (Heap.get?_push_of_some _ at0) (by unfold scanBound; omega)) (fun k => by simp) rfl
      · obtain ⟨h2, gg, dd, tt, oo⟩ := s2
        obtain rfl : gg = s.gens := mv.gens
        obtain rfl : dd = s.drawn := mv.drawn
        obtain rfl : oo = s.os := mv.os
        refine wpAny_pure (wpAny_pure ⟨rfl, h2, tt, rfl, hS, fun a o ha ho => mv.heap a o ?_ (Heap.get?_push_of_some _ (Heap.get?_push_of_some _ ho))⟩)
        rw [sz]
        simp only [List.mem_cons, List.not_mem_nil, or_false]
        exact fun x => x.elim (Nat.ne_of_lt ha) (Nat.ne_of_lt (Nat.lt_succ_of_lt ha))
    · rcases r2 with x | f2
      · exact hr2
      cases f2 with
      | ret r =>
        obtain ⟨rfl, h, t, rfl, hS, old⟩ := hr2
        repeat (any_goals (first | assumption | wp_step))
        exact q _ _ hS old
      | _ => exact hr2.elim
  | _ => exact hr.elim
end
section
variable {X : Cx}
/-- len(set(t)), t a tuple of texts -/
def tLenTextsT (K : PySem.W.Frag) (ta : TE) : TE := fun σ H Q => ta σ H fun x H1 => ∃ (l : Addr) (xs : List Str), x = V.ref l ∧ Tup H1 l (xs.map V.str) ∧ xs.length < 64 ∧ Q (.int (cntD xs xs.length : Nat)) H1
theorem pe_lenTextsT {a : Expr} {ta : TE} {p p2 q pos : Pos} (calm : X.calm = true) (g1 : Gl X "len") (m1 : X.mg "len" = none) (g2 : Gl X "set") (m2 : X.mg "set" = none) (pa : PE X a ta)
    (each : starEach [a] X.env = (false, eval a X.env) :: starEach [] X.env := by rfl) : PE X (.Call (.Name "len" p) [.Call (.Name "set" p2) [a] [] q] [] pos) (tLenTextsT X.K ta) := by
  refine ⟨fun pins s σ H Q I h => Call_ (ld_blt I g1 m1 boot_len (PyProof.Rows.callWith_builtin1 (PyProof.Rows.args_cons ?_ rfl) rfl rfl))⟩
  refine Call_ (ld_blt I g2 m2 boot_set (PyProof.Rows.callWith_type1 (PyProof.Rows.args_cons (thn (pa.run pins s σ H _ I h) fun v s1 ⟨x, H1, J, r, hx⟩ => PyProof.Rows.args_nil ?_) each) each rfl))
  obtain ⟨l, xs, rfl, tu, few, hx⟩ := hx
  cases r
  obtain ⟨vs, rv, lv, _⟩ := J.tuple (tu.sq (K := X.K))
  have sz : xs.length = vs.toArray.size := by rw [List.size_toArray, ← rv.length, List.length_map]
  have cl := cntD_le xs xs.length
  refine set_ofT (kd := strKind X.prog X.w) (J.ok.hd calm) (show s1.heap.IsTuple l vs.toArray from lv) sz (by unfold scanBound; omega) (fun i v e => text_at rv i v (by simpa using e)) fun h2 t hS old => PyProof.Rows.args_nil ?_
  obtain ⟨o, es, ep, tb, ho, ex, hd, _, _, _, fit, hn⟩ := hS
  rw [← sz] at hn
  exact call_len_set ho ex hd fit (by rw [hn]; omega) ⟨.int (cntD xs xs.length : Nat), H1, (J.kept fun b o e => old b o (Heap.lt_size e) e).tok _, ⟨_, by rw [hn]⟩, hx⟩
end
end Wg

/-! Wagon, part 40: exceptions of own classes: raised, let out by defs, caught, asked. -/
namespace Wg
open PySem PySem.Spec PyProof.Rows L2

/-! ### calls that may let an exception out -/
section
variable {X : Cx} {CX : CXT} {k : Nat} {f : Addr} {fd : FuncData} {ps : List Str} {sp : Sp} {E : L2.St → XK} {x : Str} {p pos : Pos} {e : Expr} {es : List Expr} {t : TA}
theorem go_fnS {pins : List (Addr × Obj)} {σ : L2.St} {H : Hp} {s : Shared} {Q : VK} {us : List Value} {vs : List V}
    (F : Keeps X.prog X.w X.K X.mg X.base CX k f fd ps sp) (hr : Rm k X.A) (hb : Binds X.K fd ps []) (hx : PassesAt CX X σ (E σ))
    (I : Inv X pins σ H s) (r : Vals vs us) (h : sp vs H Q (E σ)) : wpAny (model X.prog X.w) X.A (call (.ref f) us) (EP X pins σ Q) X.xe s := by
  have hl : (us ++ []).length = ps.length := by
    rw [List.append_nil, ← r.length]
    exact F.len _ _ _ _ h
  have hbs := hb s us I.kIn hl
  rw [List.append_nil] at hbs
  have run := F.run X.A X.stack s H ⟨us, []⟩ us vs Q (E σ) hr I.env0 hbs r h
  refine wpAny_call (codeAny_mono run fun res s' hq => ?_)
  match res, hq with
  | .error e, hq => exact hx pins H s e s' I hq
  | .ok (.ret u), hq => exact I.after hq
  | .ok .next, hq => exact hq.elim
  | .ok .brk, hq => exact hq.elim
  | .ok .cont, hq => exact hq.elim
def tGoS (sp : Sp) (E : L2.St → XK) (t : TA) : TE := fun σ H Q => t σ H fun vs H1 => sp vs H1 Q (E σ)
theorem pe_goS (F : Keeps X.prog X.w X.K X.mg X.base CX k f fd ps sp) (hr : Rm k X.A) (hg : Gl X x) (hm : X.mg x = some (.ref f)) (hk : PySem.W.keepIn X.K (.ref f) = true)
    (hb : Binds X.K fd ps []) (hx : ∀ σ, PassesAt CX X σ (E σ)) (ha : PA X (e :: es) t) (hdb : (x == ("__debug__" : Str)) = false := by decide)
    (he : starEach (e :: es) X.env = (false, eval e X.env) :: starEach es X.env := by rfl) (hpl : (backTo pos (starEach es X.env)).any (·.1) = false := by rfl) :
    PE X (.Call (.Name x p) (e :: es) [] pos) (tGoS sp E t) := by
  constructor
  intro pins s σ H Q I h
  refine wpAny_Call_Name_kw (ld_glob I hg hm ?_ hdb)
  have args := ha.run pos pins s σ H _ I h
  refine PySem.W.callWith_K (h₀ := X.base) I.ok.mod.kin hk (thn args fun us s1 hh => ?_) he hpl
  obtain ⟨vs, H1, I1, r, q⟩ := hh
  exact ⟨I1.kIn, go_fnS F hr hb (hx σ) I1 r q⟩
end

/-! ### defs that may raise -/
section
variable {P : Program} {w : World} {K : PySem.W.Frag} {mg : Str → Option Value} {b : Heap}
theorem keepsX {x qual : Str} {st : Stmt} {f : Addr} {fd : FuncData} {N ps : List Str} {k : Nat} {sp : Sp} (F : Fun K x qual st f fd) (S : FnScope N ps (defScope st))
    (len : ∀ vs H Q E, sp vs H Q E → vs.length = ps.length)
    (body : ∀ (cdv : Value) (A : Around) (o : List Env) (s : Shared) (H : Hp) (vs : List V) (Q : VK) (E : XK), Rm k (A.deeper (envOfC qual (defScope st) s.heap.objs.size f cdv)) → sp vs H Q E →
      ∃ t, PSs (cxOf (L2.CX P w) P w K mg b N qual (defScope st) f cdv A o s H E) (defBody st) t ∧ t { nx := fun _ H' => Q .non H', rt := Q } (start N vs) H) :
    Keeps P w K mg b (L2.CX P w) (k + 1) f fd ps sp := keeps_of F S len body
theorem keepsTX {x qual : Str} {st : Stmt} {f c : Addr} {fd : FuncData} {N ps : List Str} {k : Nat} {sp : Sp} (F : Fun K x qual st f fd) (hc : fd.code = .ref c) (S : FnScope N ps (defScope st))
    (len : ∀ vs H Q E, sp vs H Q E → vs.length = ps.length)
    (body : ∀ (A : Around) (o : List Env) (s : Shared) (H : Hp) (vs : List V) (Q : VK) (E : XK), Rm k (A.deeper (envOfC qual (defScope st) s.heap.objs.size f (.ref c))) → sp vs H Q E →
      ∃ t, PSs (cxOf (L2.CX P w) P w K mg b N qual (defScope st) f (.ref c) A o s H E) (defBody st) t ∧ t { nx := fun _ H' => Q .non H', rt := Q } (start N vs) H) :
    Keeps P w K mg b (L2.CX P w) (k + 1) f fd ps sp := by
  obtain ⟨oc, od, kV, doc, pm, an, cdv, ct, osl, rfl, lk, hcd⟩ := F.ex
  obtain rfl : cdv = .ref c := hc
  refine ⟨len, fun A o s H g us vs Q E hr e0 hb r hsp => ?_⟩
  have hl := len _ _ _ _ hsp
  have up : ∀ {a : Addr} {ob : Obj}, b.get? a = some ob → s.heap.get? a = some ob := fun {a ob} q => (e0.bs a ob q).1
  have inK : K.In s.heap := e0.mod.kin.keeps fun _ _ q => up q
  have nolim : s.heap.NoLimit := e0.mod.nolimit.keeps fun _ _ q => up q
  have kinds : ∀ y ∈ ps.zip us, (defScope st).names.lookup y.1 = some .local ∨ ((defScope st).names.lookup y.1 = some .cell ∧ ((cellsFrom (s.heap.objs.size + 1) (defScope st).names []).lookup y.1).isSome = true) := by
    rintro ⟨n, v⟩ hy
    have hn := S.par n (List.of_mem_zip hy).1
    exact hn.imp id fun q => ⟨q, PySem.W.cellsFrom_some _ _ _ (.inl q)⟩
  have recd := PySem.W.codeRec_of inK hcd
  refine codeAny_call_function hr.rm.depth (inK _ _ lk) rfl S.co S.gen rfl recd (hb _ _ _ _ ?_)
  refine wpAny_newFunctionEnv_cells S.kind kinds ?_
  intro env he s1 y
  subst he
  refine ⟨nolim.keeps y.toInCall.keep, codeAny_func ?_⟩
  obtain ⟨t, ht, hq⟩ := body A o s H vs Q E (hr.deep _) hsp
  have I := inv_start (CX := L2.CX P w) (E := E) S hr.rm.hd e0 hl r y
  refine wpAny_mono (ht.run [] s1 (start N vs) H _ I hq) ?_ fun _ _ q => q
  intro fl s' hs
  match fl, hs with
  | .ret u, hs =>
    obtain ⟨v, σ', H', J, rv, q⟩ := hs
    exact ⟨v, H', J.os, J.bare, J.base, J.hok, rv, q⟩
  | .next, hs =>
    obtain ⟨σ', H', J, q⟩ := hs
    exact ⟨.non, H', J.os, J.bare, J.base, J.hok, rfl, q⟩
  | .brk, hs => exact hs.elim fun _ z => z.elim fun _ y => y.2.elim
  | .cont, hs => exact hs.elim fun _ z => z.elim fun _ y => y.2.elim
end

/-! ### an own class's base, named: W.__init__(self, ..) where W has none of its own -/
structure BasW (K : PySem.W.Frag) (W : Addr) : Prop where
  ga : PySem.W.specialIn K (.ref W) "__getattribute__" = some (some (.builtin "type.__getattribute__"))
  rd : PySem.W.readsIn K W (.type "type") = true
  fi : PySem.W.findCls K (.ref W) (.type "type") "__init__" = some (.val (.builtin "ValueError.__init__"))
section
variable {X : Cx} {e : Expr} {es : List Expr} {ta : TA} {p1 p2 pos : Pos} {x : Str} {W : Addr}
theorem pe_winit {pl : Sem Bool} (B : BasW X.K W) (hg : Gl X x) (hm : X.mg x = some (.ref W)) (ha : PA X (e :: es) ta)
    (hc : eval (.Call (.Attribute (.Name x p1) "__init__" p2) (e :: es) [] pos) X.env = (do
      let ov ← eval (.Name x p1) X.env
      standAt p2.atName
      let (f, first) ← holding [ov] (getMethod ov "__init__" pl)
      callWith pos f first (backTo pos (starEach (e :: es) X.env)) (backToKw pos (keywordEach [] X.env))) := by rfl)
    (hdb : (x == ("__debug__" : Str)) = false := by decide)
    (he : starEach (e :: es) X.env = (false, eval e X.env) :: starEach es X.env := by rfl) (hpl : (backTo pos (starEach es X.env)).any (·.1) = false := by rfl) :
    PE X (.Call (.Attribute (.Name x p1) "__init__" p2) (e :: es) [] pos) (tVeI X.K ta) := by
  refine ⟨fun pins s σ H Q I h => ?_⟩
  refine PySem.W.methodCall_KW (ld_glob I hg hm ?_ hdb) hc
  refine PySem.W.method_cls I.kIn B.ga (PySem.W.cls_value I.kIn B.rd B.fi (by decide +kernel) ?_)
  show wpAny _ _ (callWith pos (Value.builtin "ValueError.__init__") [] (backTo pos (starEach (e :: es) X.env)) []) _ _ _
  refine PyProof.Rows.callWith_method1 (thn (ha.run pos pins _ σ H _ (I.tok _) h) fun us s1 ⟨vs, H1, I1, r1, a, C, ws, ev, hl, T, ea, q⟩ => ?_) he hpl
  subst ev
  cases r1 with
  | @cons _ u0 _ ur ra rw' =>
    obtain rfl : u0 = Value.ref a := ra
    have hlen : ur.length ≤ sizeLine := by
      rw [← Paired.length rw', sizeLine_eq]
      omega
    exact oinit_ok T I1 ea hlen fun s' J => ⟨.non, H1, J, rfl, q⟩
end

/-! ### raise -/
def tRaiseE (E : XK) (t : L2.St → Hp → XK → Prop) : TS := fun _ σ H => t σ H fun cls d H' => E cls d H'
/-- raise within a def that may let it out -/
theorem ps_raiseE {X : Cx} {E : XK} {e : Expr} {t : L2.St → Hp → XK → Prop} {pos : Pos} (hc : X.calm = true) (tk : Takes X (fun cls d _ H => E cls d H)) (he : PMk X e t) : PS X (.Raise (some e) none pos) (tRaiseE E t) := ps_raise hc tk he
theorem upd_fun {H1 H2 : Hp} {a d : Addr} {o : HO} (na : H1 a = none) (nd : d ≠ a) (h : ∀ b, b ≠ a → b ≠ d → H2 b = H1 b) : upd (del H2 a) d o = upd H1 d o := by
  funext b
  by_cases hd : b = d
  · rw [hd, upd_same, upd_same]
  · rw [upd_ne hd, upd_ne hd]
    by_cases ha : b = a
    · rw [ha, del_same, na]
    · rw [del_ne ha, h b ha hd]
/-- what an __init__ that keeps its arguments as fields promises -/
def spIni (K : PySem.W.Frag) (C : Addr) (fs : List Str) : Sp := fun vs H Q _ => ∃ (a : Addr) (ws : List V), vs = .ref a :: ws ∧ ws.length = fs.length ∧ H a = some (exo a C none) ∧
  ∀ d H', H d = none → d ≠ a → H' a = some (exo a C (some d)) → H' d = some (exd d (fs.zip ws).reverse) → (∀ b, b ≠ a → b ≠ d → H' b = H b) → Q .non H'
theorem g_mkO {C : Addr} {K : PySem.W.Frag} {fs : List Str} {ws : List V} {σ : L2.St} {H : Hp} {Q : XK} (l : ws.length = fs.length) (l2 : ws.length ≤ 1000) (q : ∀ d, H d = none → Q (.ref C) (some d) (upd H d (.xd (fs.zip ws).reverse))) :
    ws.length ≤ 1000 ∧ ∀ a, H a = none → spIni K C fs (.ref a :: (ws ++ [])) (upd H a (exo a C none))
      (fun v H2 => v = .non ∧ ∃ (d : Addr) (gs : List (Str × V)), H2 a = some (exo a C (some d)) ∧ H2 d = some (exd d gs) ∧ H d = none ∧ Q (.ref C) (some d) (upd (del H2 a) d (.xd gs))) (fun _ _ _ => False) := by
  refine ⟨l2, fun a na => ⟨a, ws, by rw [List.append_nil], l, upd_same, fun d H' nd ne ea ed same => ⟨rfl, d, _, ea, ed, ?_, ?_⟩⟩⟩
  · rw [upd_ne ne] at nd
    exact nd
  · rw [upd_ne ne] at nd
    rw [upd_fun na ne fun b h1 h2 => by rw [same b h1 h2, upd_ne h1]]
    exact q d nd

/-! ### asked in an except suite -/
structure ExA (K : PySem.W.Frag) (C : Addr) : Prop where
  cl : (PySem.W.clsIn K C).isSome = true
  ga : PySem.W.findIn K (.ref C) "__getattribute__" = some (some (.builtin "BaseException.__getattribute__"))
  gg : PySem.W.findIn K (.ref C) "__getattr__" = some none
  ex : PySem.W.subIn K (.ref C) (.type "BaseException") = some true
  hd : PySem.W.hasDictIn K C = true
  kl : PySem.W.findIn K (.ref C) "__class__" = some (some (.builtin "object.__class__"))
  kn : PySem.W.specialIn K (.builtin "object.__class__") "__get__" = some (some (.builtin "getset_descriptor.__get__"))
  kt : PySem.W.takesIn K (.builtin "object.__class__") = some true
  km : PySem.W.mroIn K C (.type "object") = some true
theorem ExA.xf {K : PySem.W.Frag} {C : Addr} (T : ExA K C) : XfC K C := ⟨T.ga, T.gg, T.ex, T.hd⟩
/-- the caught exception in the suite: its class, its fields -/
def Caught (K : PySem.W.Frag) (cls : Value) (d : Option Addr) (H : Hp) (C : Addr) (fs : List (Str × V)) : Prop := cls = .ref C ∧ ExA K C ∧ ∃ dd, d = some dd ∧ H dd = some (.xd fs)
theorem caught_at {X : Cx} {a C : Addr} {oe : Obj} {cls : Value} {d : Option Addr} {pn pins : List (Addr × Obj)} {σ : L2.St} {H : Hp} {s : Shared} {fs : List (Str × V)} (hz : Zc cls d oe) (hf : ∃ vs, oe.data = .fields vs)
    (I : Inv (X.suite a ((a, oe) :: pn)) pins σ H s) (h : Caught X.K cls d H C fs) : ∃ od, PySem.W.InstAt s.heap a oe C (some od) ∧ ∀ n v, fs.lookup n = some v → ∃ u, RelV v u ∧ PySem.W.lookIn n od = some (some u) := by
  obtain ⟨ec, T, dd, ed, ea⟩ := h
  subst ec
  subst ed
  obtain ⟨ha, _⟩ := I.pin (a, oe) (List.mem_append_left _ List.mem_cons_self)
  obtain ⟨vs, hd⟩ := hf
  have hx : ObjOk X.prog X.w H s.heap dd (.xd fs) := I.hok dd _ ea
  obtain ⟨mA, hns, hr⟩ := hx
  obtain ⟨od, ho, hl⟩ := lookIn_ns hns
  have J : PySem.W.InstAt s.heap a oe C (some od) := ⟨ha, hz.1, by unfold PySem.W.notCls; rw [hd] <;> rfl, by rw [hz.2]; exact ho⟩
  refine ⟨od, J, fun n v l => ?_⟩
  obtain ⟨u, hu, ru⟩ := RelO.some_of (v := v) (o := mA n) (by rw [← l]; exact hr n)
  exact ⟨u, ru, by rw [hl, hu]⟩
section
variable {X : Cx} {a : Addr} {oe : Obj} {cls : Value} {d : Option Addr} {pn : List (Addr × Obj)} {e : Expr} {te : TE} {pos : Pos} {n : Str}
/-- e.f -/
def tXfA (K : PySem.W.Frag) (a : Addr) (cls : Value) (d : Option Addr) (f : Str) (te : TE) : TE := fun σ H Q => te σ H fun x H1 => x = .ref a ∧ ∃ (C : Addr) (fs : List (Str × V)) (v : V), Caught K cls d H1 C fs ∧ PySem.W.findIn K (.ref C) f = some none ∧ fs.lookup f = some v ∧ Q v H1
theorem pe_xfA (hz : Zc cls d oe) (hf : ∃ vs, oe.data = .fields vs) (he : PE (X.suite a ((a, oe) :: pn)) e te) (hb : attributeBase e n X.env (eval e X.env) = eval e X.env := by rfl) :
    PE (X.suite a ((a, oe) :: pn)) (.Attribute e n pos) (tXfA X.K a cls d n te) := by
  refine ⟨fun pins s σ H Q I h => ?_⟩
  refine attr_of hb (thn (he.run pins s σ H _ I h) fun u s1 hh => ?_)
  obtain ⟨x, H1, I1, rx, ex, C, fs, v, c, hno, l, q⟩ := hh
  subst ex
  obtain rfl : u = Value.ref a := rx
  obtain ⟨od, J, hl⟩ := caught_at hz hf I1 c
  obtain ⟨u, ru, hu⟩ := hl n v l
  have T := c.2.1
  exact HandSPX.exc_get I1.kIn J T.ga T.gg T.ex (PySem.W.findObj_own T.hd hno rfl hu) (handed_of ru) ⟨v, H1, I1.tok _, ru, q⟩
/-- isinstance(e, c), isinstance(e, (c, ..)) -/
def rIsA (K : PySem.W.Frag) (a : Addr) (cls : Value) (d : Option Addr) : List V → Hp → VK → Prop := fun xs H Q => ∃ (C : Addr) (fs : List (Str × V)) (c : V), xs = [.ref a, c] ∧ Caught K cls d H C fs ∧
  ((∃ (cv : Value) (b : Bool), (∀ u, RelV c u → u = cv) ∧ PySem.W.kitOne K (.ref C) cv = some b ∧ Q (.bl b) H) ∨
    ∃ (t : Addr) (cs : List Addr) (b : Bool), c = .ref t ∧ Tup H t (cs.map V.ref) ∧ PySem.W.kitAny K (.ref C) (cs.map Value.ref) = some b ∧ Q (.bl b) H)
theorem vals_refs : ∀ {cs : List Addr} {us : List Value}, Vals (cs.map V.ref) us → us = cs.map Value.ref
  | [], _, r => by cases r; rfl
  | c :: cs, _, r => by
    cases r with
    | cons r1 r2 =>
      rw [vals_refs r2]
      cases r1
      rfl
theorem call_isA (hz : Zc cls d oe) (hf : ∃ vs, oe.data = .fields vs) : CallR (X.suite a ((a, oe) :: pn)) (.builtin "isinstance") (rIsA X.K a cls d) := by
  intro pins s σ H xs us Q I r h
  obtain ⟨C, fs, c, rfl, k, h⟩ := h
  obtain ⟨od, J, _⟩ := caught_at hz hf I k
  have T := k.2.1
  have Z : PySem.W.KitX X.K (.ref a) (.ref C) (fun h => PySem.W.InstAt h a oe C (some od)) := PySem.W.kitx_exc T.cl T.ga T.gg T.ex T.kl T.kn T.kt T.km
  cases r with
  | cons rx rr =>
    cases rr with
    | cons rt rr =>
      cases rr
      cases rx
      rcases h with ⟨cv, b, hcv, e, q⟩ | ⟨t, cs, b, rfl, tu, e, q⟩
      · have ec := hcv _ rt
        subst ec
        exact PySem.W.kia_one Z I.kIn J e (fun z => nomatch z) fun tk => ⟨.bl b, H, I.kept (t' := tk) fun _ _ z => z, rfl, q⟩
      · cases rt
        obtain ⟨its, n, rv, z, ho⟩ := tu.obj I
        rw [vals_refs rv] at ho
        exact PySem.W.kia_tup Z I.kIn J ho e (fun z => nomatch z) fun tk => ⟨.bl b, H, I.kept (t' := tk) fun _ _ z => z, rfl, q⟩
end
end Wg
namespace Wg
open PySem PySem.Spec PyProof.Rows L2
/-! ### the __init__ of an exception class, walked -/
theorem rd_ini1 {K : PySem.W.Frag} {C : Addr} {f1 m : Str} (T : OexC K C) (n1 : PySem.W.findIn K (.ref C) f1 = some none) {vs : List V} {H : Hp} {Q : VK} {E : XK} {x y : Str} (h : spIni K C [f1] vs H Q E) :
    tSeq (tDrop (tVeI K (tCons (tVar 0) (tCons (tC (.str m)) tNil)))) (tOst K f1 (tVar 0) (tVar 1)) { nx := fun _ H' => Q .non H', rt := Q } (L2.start [x, y] vs) H := by
  obtain ⟨a, ws, rfl, l, ea, q⟩ := h
  match ws, l with
  | [v1], _ =>
    show ∃ x, (some (some (V.ref a)) = some (some x)) ∧ _
    refine ⟨_, rfl, a, C, [.str m], rfl, by show 1 ≤ 1000; decide, T, ea, ?_⟩
    refine ⟨v1, rfl, .ref a, rfl, a, C, rfl, T, n1, .inl ⟨ea, fun d nd ne => ?_⟩⟩
    exact q d _ nd ne upd_same (by rw [upd_ne ne, upd_same]; rfl) fun b h1 h2 => by rw [upd_ne h1, upd_ne h2]
theorem rd_ini2 {K : PySem.W.Frag} {C : Addr} {f1 f2 m : Str} (T : OexC K C) (n1 : PySem.W.findIn K (.ref C) f1 = some none) (n2 : PySem.W.findIn K (.ref C) f2 = some none) {vs : List V} {H : Hp} {Q : VK} {E : XK} {x y z : Str} (h : spIni K C [f1, f2] vs H Q E) :
    tSeq (tDrop (tVeI K (tCons (tVar 0) (tCons (tC (.str m)) tNil)))) (tSeq (tOst K f1 (tVar 0) (tVar 1)) (tOst K f2 (tVar 0) (tVar 2))) { nx := fun _ H' => Q .non H', rt := Q } (L2.start [x, y, z] vs) H := by
  obtain ⟨a, ws, rfl, l, ea, q⟩ := h
  match ws, l with
  | [v1, v2], _ =>
    show ∃ x, (some (some (V.ref a)) = some (some x)) ∧ _
    refine ⟨_, rfl, a, C, [.str m], rfl, by show 1 ≤ 1000; decide, T, ea, ?_⟩
    refine ⟨v1, rfl, .ref a, rfl, a, C, rfl, T, n1, .inl ⟨ea, fun d nd ne => ?_⟩⟩
    refine ⟨v2, rfl, .ref a, rfl, a, C, rfl, T, n2, .inr ⟨d, _, upd_same, by rw [upd_ne ne, upd_same], by show 1 ≤ 900; decide, ?_⟩⟩
    refine q d _ nd ne (by rw [upd_ne (Ne.symm ne), upd_same]) upd_same fun b h1 h2 => by rw [upd_ne h2, upd_ne h1, upd_ne h2]
/-! ### try -/
def tTryAs (K : PySem.W.Frag) (C : Addr) (i : Nat) (tb : WX → TS) (ts : Addr → Value → Option Addr → TS) : TS := fun D σ H => tb (wAs K (.ref C) i ts (fun _ _ _ _ => False) D) D σ H
def tTryOnly (K : PySem.W.Frag) (C : Addr) (tb : WX → TS) (ts : Addr → Value → Option Addr → TS) : TS := fun D σ H => tb (wOnly K (.ref C) ts (fun _ _ _ _ => False) D) D σ H
end Wg

namespace Wg
open PySem PySem.Spec PyProof.Rows L2
/-! ### is True of a thing that may be an object -/
def rIsX : R2 := fun x y H Q => ∃ b : Bool, y = .bl b ∧ ((∃ a : Bool, x = .bl a ∧ Q (.bl (decide (a = b))) H) ∨ (∃ p, x = .ref p ∧ Q (.bl false) H))
def rNotX : R2 := fun x y H Q => ∃ b : Bool, y = .bl b ∧ ((∃ a : Bool, x = .bl a ∧ Q (.bl (!decide (a = b))) H) ∨ (∃ p, x = .ref p ∧ Q (.bl true) H))
section
variable {X : Cx}
theorem op_isX : OpR X (compareOp .Is) rIsX := by
  intro pins s σ H x y v u Q I rx ry h
  obtain ⟨b, rfl, ⟨a, rfl, q⟩ | ⟨p, rfl, q⟩⟩ := h
  · exact op_isBl _ _ _ _ _ _ _ _ _ I rx ry ⟨a, b, rfl, rfl, q⟩
  · cases (show v = Value.ref p from rx)
    cases (show u = Value.bool b from ry)
    exact wpAny_is_other rfl (fun z => nomatch z) ⟨.bl false, H, I, rfl, q⟩
theorem op_notX : OpR X (compareOp .IsNot) rNotX := by
  intro pins s σ H x y v u Q I rx ry h
  obtain ⟨b, rfl, ⟨a, rfl, q⟩ | ⟨p, rfl, q⟩⟩ := h
  · exact op_notBl _ _ _ _ _ _ _ _ _ I rx ry ⟨a, b, rfl, rfl, q⟩
  · cases (show v = Value.ref p from rx)
    cases (show u = Value.bool b from ry)
    exact wpAny_isNot_other rfl (fun z => nomatch z) ⟨.bl true, H, I, rfl, q⟩
end
/-! ### a comprehension over enumerate(list) -/
def CEl (K : PySem.W.Frag) (g : TG) (tt : TT) (te : TE) (vs : List Nat) (σ : L2.St) (Q : VK) (ws : List V) (H1 : Hp) : Prop := ∃ a xs, ws = [.ref a] ∧ SqL K H1 a xs ∧ CB (Ite K a) g tt te vs σ Q H1
theorem e_lcEl {K : PySem.W.Frag} {ta : TA} {g : TG} {tt : TT} {te : TE} {vs : List Nat} {σ : L2.St} {H : Hp} {Q : VK} : tLc (iEnum K ta) g tt te vs σ H Q ↔ ta σ H (CEl K g tt te vs σ Q) := Iff.rfl
theorem g_CEl {K : PySem.W.Frag} {g : TG} {tt : TT} {te : TE} {vs : List Nat} {σ : L2.St} {Q : VK} {H1 : Hp} {a : Addr} {us : List V} (ha : H1 a = some (.lst us)) (P : Nat → Hp → List V → Prop)
    (p0 : ∀ D H2, H1 D = none → Keep [] H1 H2 → P 0 H2 [])
    (ps : ∀ D i x H acc (R : VK) (R0 : Hp → Prop) T H', H1 D = none → us[i]? = some x → Keep [] H1 H' → H' D = some (.lst acc) → Keep [] H H' → P i H acc → H' T = some (.tup [.int (i : Nat), x]) →
      (∀ z H4, Keep [] H' H4 → acc.length < sizeLine → (∀ H5, Keep [D] H4 H5 → P (i + 1) H5 (acc ++ [z])) → R z H4) → (∀ H3, Keep [] H' H3 → P (i + 1) H3 acc → R0 H3) →
      g (.ref T) (wipe σ vs) H' fun σ2 H2 => wipe σ2 vs = wipe σ vs ∧ tt σ2 H2 fun bb H3 => if bb = true then te σ2 H3 R else R0 H3)
    (pd : ∀ D H acc, H1 D = none → Keep [] H1 H → H D = some (.lst acc) → P us.length H acc → Q (.ref D) H) : CEl K g tt te vs σ Q [.ref a] H1 := by
  refine ⟨a, us, rfl, lst_sq ha, fun D hD => ?_⟩
  refine ⟨fun i m H => m = us.length - i ∧ i ≤ us.length ∧ Keep [] H1 H ∧ ∃ acc, H D = some (.lst acc) ∧ P i H acc, ⟨us.length, by omega, by omega, Keep.new hD, [], upd_same, p0 D _ hD (Keep.new hD)⟩, ?_⟩
  rintro i m H ⟨rfl, hi, k, acc, eD, p⟩
  have ta := lst_sq (K := K) (k _ _ nin0 ha)
  by_cases hlt : i < us.length
  · have hx := List.getElem?_eq_getElem hlt
    refine .inr ⟨⟨us, _, ta, hx⟩, fun H' => i + 1 ≤ us.length ∧ Keep [] H1 H' ∧ ∃ acc, H' D = some (.lst acc) ∧ P (i + 1) H' acc, fun H' q => ⟨us.length - (i + 1), by omega, rfl, q⟩, fun v H' y => ?_⟩
    obtain ⟨T, x', rfl, hT, rfl, f1⟩ := y
    have kn : Keep [] H (upd H T (.tup [.int (i : Nat), x'])) := Keep.new hT
    refine ps D i x' H acc _ _ T _ hD (f1 us ta) (k.trans kn) (kn _ _ nin0 eD) kn p upd_same (fun z H4 k4 hz q => ⟨acc, k4 _ _ nin0 (kn _ _ nin0 eD), hz, hlt, (k.trans (kn.trans k4)).past Keep.set hD, _, upd_same, q _ Keep.set⟩) fun H3 k3 q => ⟨hlt, k.trans (kn.trans k3), acc, k3 _ _ nin0 (kn _ _ nin0 eD), q⟩
  · have e : i = us.length := by omega
    subst e
    exact .inl ⟨⟨us, ta, Nat.le_refl _⟩, pd D H acc hD k eD p⟩
end Wg

namespace Wg
open PySem PySem.Spec PyProof.Rows L2
/-! ### for over reversed(list) -/
def FRv (K : PySem.W.Frag) (g : TG) (tb : TS) (D : Ends) (σ : L2.St) (vs : List V) (H1 : Hp) : Prop := ∃ a xs, vs = [.ref a] ∧ SqL K H1 a xs ∧ ∃ W : Nat → Nat → L2.St → Hp → Prop, (∃ m, W 0 m σ H1) ∧ ∀ i m σ H, W i m σ H →
  ((Itv K a xs.length).stop i H ∧ D.nx σ H) ∨ ((Itv K a xs.length).go i H ∧ ∃ N : L2.St → Hp → Prop, (∀ σ' H', N σ' H' → ∃ m', m' < m ∧ W (i + 1) m' σ' H') ∧ ∀ x H', (Itv K a xs.length).yld i H x H' → g x σ H' fun σ2 H2 => tb { D with nx := N, ct := N, bk := D.nx } σ2 H2)
theorem e_forRv {K : PySem.W.Frag} {ta : TA} {g : TG} {tb : TS} {D : Ends} {σ : L2.St} {H : Hp} : tFor (iRev K ta) g tb D σ H ↔ ta σ H (FRv K g tb D σ) := Iff.rfl
theorem g_FRv {K : PySem.W.Frag} {g : TG} {tb : TS} {D : Ends} {σ : L2.St} {H1 : Hp} {a : Addr} {xs : List V} (Pv : Nat → L2.St → Hp → Prop) (h : H1 a = some (.lst xs)) (h0 : Pv 0 σ H1) (hl : ∀ i σ H, i ≤ xs.length → Pv i σ H → H a = some (.lst xs))
    (hs : ∀ i x σ H, i < xs.length → xs[xs.length - 1 - i]? = some x → Pv i σ H → g x σ H fun σ2 H2 => tb { D with nx := Pv (i + 1), ct := Pv (i + 1), bk := D.nx } σ2 H2) (hd : ∀ σ H, Pv xs.length σ H → D.nx σ H) : FRv K g tb D σ [.ref a] H1 := by
  refine ⟨a, xs, rfl, lst_sq h, fun i m σ H => m = xs.length - i ∧ i ≤ xs.length ∧ Pv i σ H, ⟨xs.length, by simp, Nat.zero_le _, h0⟩, ?_⟩
  rintro i m σ H ⟨rfl, hi, p⟩
  have tu := lst_sq (K := K) (hl i σ H hi p)
  by_cases hlt : i < xs.length
  · have hx := List.getElem?_eq_getElem (show xs.length - 1 - i < xs.length by omega)
    refine .inr ⟨⟨hlt, xs, _, tu, hx⟩, Pv (i + 1), fun σ' H' p' => ⟨xs.length - (i + 1), by omega, rfl, hlt, p'⟩, fun x H' y => ?_⟩
    obtain ⟨rfl, hu⟩ := y
    exact hs i x σ H' hlt (hu xs tu) p
  · have e : i = xs.length := by omega
    subst e
    exact .inl ⟨Nat.le_refl _, hd σ H p⟩
end Wg

namespace Wg
open PySem PySem.Spec PyProof.Rows L2
/-! ### startswith -/
section
variable {X : Cx} {o e : Expr} {to te : TE} {apos pos : Pos}
def uStarts : V → List V → Hp → VK → Prop := fun x xs H Q => ∃ a b : Str, x = .str a ∧ xs = [.str b] ∧ Q (.bl (Txt.startswith a b)) H
theorem pe_uStarts (ho : PE X o to) (he : PE X e te) (hs : starEach [e] X.env = [(false, eval e X.env)] := by rfl) (hbase : attributeBase o "startswith" X.env (eval o X.env) = eval o X.env := by rfl) (hline : (apos.endLine == pos.line) = true := by rfl) :
    PE X (.Call (.Attribute o "startswith" apos) [e] [] pos) (tM1 uStarts to te) := pe_m1 PySem.F.slot_str_startswith PySem.F.type_str_startswith mt_startswith ho he hs hbase hline
end
end Wg

/-! Wagon, part 44: exceptions as things: made without being raised, kept behind an except suite, asked for class and fields. -/
namespace Wg
open PySem PySem.Spec PyProof.Rows L2

/-- at a stands an exception of the class cls with the dict d -/
def ExV (cls : Value) (d : Option Addr) (a : Addr) : HO := .ext fun h => ∃ (ob : Obj) (fv : Array Value), h.get? a = some ob ∧ Zc cls d ob ∧ ob.data = .fields fv
theorem exv_ok {P : Program} {w : World} {H : Hp} {h : Heap} {a : Addr} {cls : Value} {d : Option Addr} {ob : Obj} {fv : Array Value} (e : h.get? a = some ob) (z : Zc cls d ob) (f : ob.data = .fields fv) : ObjOk P w H h a (ExV cls d a) :=
  ⟨⟨ob, fv, e, z, f⟩, ⟨ob, e⟩, fun _ _ ⟨o2, v2, q, r⟩ k => ⟨o2, v2, k o2 q, r⟩⟩
theorem exv_at {P : Program} {w : World} {H : Hp} {h : Heap} {a : Addr} {cls : Value} {d : Option Addr} (hok : HOk P w H h) (e : H a = some (ExV cls d a)) : ∃ (ob : Obj) (fv : Array Value), h.get? a = some ob ∧ Zc cls d ob ∧ ob.data = .fields fv := by
  have x : ObjOk P w H h a (.ext fun h => ∃ (ob : Obj) (fv : Array Value), h.get? a = some ob ∧ Zc cls d ob ∧ ob.data = .fields fv) := hok a _ e
  exact x.1
/-- an exception made, as a value -/
def tMkV (t : L2.St → Hp → XK → Prop) : TE := fun σ H Q => t σ H fun cls d H' => ∀ a, H' a = none → Q (.ref a) (upd H' a (ExV cls d a))
theorem pe_mkV {X : Cx} {e : Expr} {t : L2.St → Hp → XK → Prop} (mk : PMk X e t) : PE X e (tMkV t) := by
  refine ⟨fun pins s σ H Q I h => wpAny_mono (mk pins s σ H _ I h) (fun u s1 hu => ?_) fun _ _ z => z⟩
  obtain ⟨a, ob, fv, sI, H', cls, d, rfl, J, k, gone, there, hz, hd, _, na, os, ag, _, q⟩ := hu
  have new : ObjOk X.prog X.w (upd H' a (ExV cls d a)) s1.heap a (ExV cls d a) := exv_ok there hz hd
  exact ⟨.ref a, _, J.call' (ch := []) os (Un.laidN k gone na) (HOk.laidN J.hok k na new) ag (fun _ z => nomatch z), rfl, q a na⟩

/-! ### asked -/
/-- an exception of the class C with the fields fs -/
def ExcAt (K : PySem.W.Frag) (H : Hp) (a C : Addr) (fs : List (Str × V)) : Prop := ExA K C ∧ ∃ d, H a = some (ExV (.ref C) d a) ∧ ((d = none ∧ fs = []) ∨ ∃ dd, d = some dd ∧ H dd = some (.xd fs))
theorem excAt_inst {X : Cx} {pins : List (Addr × Obj)} {σ : L2.St} {H : Hp} {s : Shared} {a C : Addr} {fs : List (Str × V)} (I : Inv X pins σ H s) (h : ExcAt X.K H a C fs) :
    ∃ (ob : Obj) (od : Option Obj), PySem.W.InstAt s.heap a ob C od ∧ ∀ n v, fs.lookup n = some v → ∃ o u, od = some o ∧ RelV v u ∧ PySem.W.lookIn n o = some (some u) := by
  obtain ⟨_, d, ea, hd⟩ := h
  obtain ⟨ob, fv, e, hz, hf⟩ := exv_at I.hok ea
  rcases hd with ⟨rfl, rfl⟩ | ⟨dd, rfl, ed⟩
  · exact ⟨ob, none, ⟨e, hz.1, by unfold PySem.W.notCls; rw [hf] <;> rfl, by rw [hz.2]; trivial⟩, fun n v l => nomatch l⟩
  · have hx : ObjOk X.prog X.w H s.heap dd (.xd fs) := I.hok dd _ ed
    obtain ⟨mA, hns, hr⟩ := hx
    obtain ⟨o2, ho, hl⟩ := lookIn_ns hns
    refine ⟨ob, some o2, ⟨e, hz.1, by unfold PySem.W.notCls; rw [hf] <;> rfl, by rw [hz.2]; exact ho⟩, fun n v l => ?_⟩
    obtain ⟨u, hu, ru⟩ := RelO.some_of (v := v) (o := mA n) (by rw [← l]; exact hr n)
    exact ⟨o2, u, rfl, ru, by rw [hl, hu]⟩
section
variable {X : Cx} {e : Expr} {te : TE} {pos : Pos} {n : Str}
def tXfV (K : PySem.W.Frag) (f : Str) (te : TE) : TE := fun σ H Q => te σ H fun x H1 => ∃ (a C : Addr) (fs : List (Str × V)) (v : V), x = .ref a ∧ ExcAt K H1 a C fs ∧ PySem.W.findIn K (.ref C) f = some none ∧ fs.lookup f = some v ∧ Q v H1
theorem pe_xfV (he : PE X e te) (hb : attributeBase e n X.env (eval e X.env) = eval e X.env := by rfl) : PE X (.Attribute e n pos) (tXfV X.K n te) := by
  refine ⟨fun pins s σ H Q I h => attr_of hb (thn (he.run pins s σ H _ I h) fun u s1 hh => ?_)⟩
  obtain ⟨x, H1, I1, rx, a, C, fs, v, ex, c, hno, l, q⟩ := hh
  subst ex
  obtain rfl : u = Value.ref a := rx
  obtain ⟨ob, od, J, hl⟩ := excAt_inst I1 c
  obtain ⟨o, u, eo, ru, hu⟩ := hl n v l
  subst eo
  have T := c.1
  exact HandSPX.exc_get I1.kIn J T.ga T.gg T.ex (PySem.W.findObj_own T.hd hno rfl hu) (handed_of ru) ⟨v, H1, I1.tok _, ru, q⟩
def rIsV (K : PySem.W.Frag) : List V → Hp → VK → Prop := fun xs H Q => ∃ (a C : Addr) (fs : List (Str × V)) (c : V), xs = [.ref a, c] ∧ ExcAt K H a C fs ∧
  ((∃ (cv : Value) (b : Bool), (∀ u, RelV c u → u = cv) ∧ PySem.W.kitOne K (.ref C) cv = some b ∧ Q (.bl b) H) ∨
    ∃ (t : Addr) (cs : List Addr) (b : Bool), c = .ref t ∧ Tup H t (cs.map V.ref) ∧ PySem.W.kitAny K (.ref C) (cs.map Value.ref) = some b ∧ Q (.bl b) H)
theorem call_isV : CallR X (.builtin "isinstance") (rIsV X.K) := by
  intro pins s σ H xs us Q I r h
  obtain ⟨a, C, fs, c, rfl, k, h⟩ := h
  obtain ⟨ob, od, J, _⟩ := excAt_inst I k
  have T := k.1
  have Z : PySem.W.KitX X.K (.ref a) (.ref C) (fun h => PySem.W.InstAt h a ob C od) := PySem.W.kitx_exc T.cl T.ga T.gg T.ex T.kl T.kn T.kt T.km
  cases r with
  | cons rx rr =>
    cases rr with
    | cons rt rr =>
      cases rr
      cases rx
      rcases h with ⟨cv, b, hcv, e, q⟩ | ⟨t, cs, b, rfl, tu, e, q⟩
      · obtain rfl := hcv _ rt
        exact PySem.W.kia_one Z I.kIn J e (fun z => nomatch z) fun tk => ⟨.bl b, H, I.kept (t' := tk) fun _ _ z => z, rfl, q⟩
      · cases rt
        obtain ⟨its, m, rv, z, ho⟩ := tu.obj I
        rw [vals_refs rv] at ho
        exact PySem.W.kia_tup Z I.kIn J ho e (fun z => nomatch z) fun tk => ⟨.bl b, H, I.kept (t' := tk) fun _ _ z => z, rfl, q⟩
end

/-! ### kept behind the suite -/
def wKp (K : PySem.W.Frag) (c : Value) (i : Nat) (ts : Addr → Value → Option Addr → TS) (Wout : WX) (D : Ends) : WX := fun cls d σ H =>
  ∃ b, PySem.W.exmOne K cls c = some b ∧ (b = false → Wout cls d σ H) ∧ (b = true → ∀ a, H a = none →
    ts a cls d { nx := fun σ2 H2 => D.nx (σ2.set i none) (upd H2 a (ExV cls d a)), rt := fun v H2 => D.rt v (upd H2 a (ExV cls d a)), bk := fun σ2 H2 => D.bk (σ2.set i none) (upd H2 a (ExV cls d a)), ct := fun σ2 H2 => D.ct (σ2.set i none) (upd H2 a (ExV cls d a)) } (σ.set i (some (.ref a))) H)
theorem Inv.track {X : Cx} {pins : List (Addr × Obj)} {σ : L2.St} {H : Hp} {s : Shared} {a : Addr} {ob : Obj} {fv : Array Value} {cls : Value} {d : Option Addr} (I : Inv X pins σ H s) (na : H a = none) (old : X.s_0.heap.get? a = none)
    (there : s.heap.get? a = some ob) (hz : Zc cls d ob) (hf : ob.data = .fields fv) (nL : a ≠ X.env.locals) (np : ∀ p ∈ X.pn ++ pins, p.1 ≠ a) : Inv X pins σ (upd H a (ExV cls d a)) s := by
  have one : ∀ {b : Addr} {o : HO}, H b = some o → b ≠ a := fun {b o} q z => by rw [z, na] at q; cases q
  have out : ∀ {b : Addr} {o : Obj}, X.s_0.heap.get? b = some o → b ≠ a := fun {b o} q z => by rw [z, old] at q; cases q
  refine ⟨I.ok, I.os, I.bare, ⟨I.base.keep, I.base.slot, fun b o q n hx => ?_, I.base.there, fun b xs q => ?_, fun b o u q => ?_, fun b ps q => ?_⟩, I.loc, I.cell, ?_, fun x c hc => ?_, fun p hp => ?_, fun b u q => ?_, I.len⟩
  · rw [upd_ne (out q)]
    exact I.base.free b o q n hx
  · rw [upd_ne (one (I.base.tups b xs q))]
    exact I.base.tups b xs q
  · rw [upd_ne (one (I.base.frzs b o u q))]
    exact I.base.frzs b o u q
  · obtain ⟨m, z⟩ := I.base.tbls b ps q
    exact ⟨m, by rw [upd_ne (one z)]; exact z⟩
  · rw [upd_ne (Ne.symm nL)]
    exact I.free
  · have nc : c ≠ a := fun z => by
      obtain ⟨v, o, ho, hv⟩ := I.cell x c hc
      rw [z, there] at ho
      cases ho
      rw [hf] at hv
      cases hv
    rw [upd_ne nc]
    exact I.freeC x c hc
  · obtain ⟨q1, q2, q3⟩ := I.pin p hp
    exact ⟨q1, by rw [upd_ne (np p hp)]; exact q2, q3⟩
  · by_cases hb : b = a
    · subst hb
      rw [upd_same] at q
      cases q
      exact exv_ok there hz hf
    · rw [upd_ne hb] at q
      exact (I.hok b u q).stay (fun c v _ z => z) (fun c z => by rw [upd_ne (one z)]; exact z) fun c xs z => by rw [upd_ne (one z)]; exact z
section
variable {X : Cx} {x n : Str} {c : Value} {i : Nat} {body suite : List Stmt} {b₀ : Stmt} {np pos pos' : Pos} {tb : WX → TS} {ts : Addr → Value → Option Addr → TS} {Wout : WX}
theorem ps_try_kp (stk : X.stack = X.env :: X.outer) (fr : X.env.frame = some X.env.locals) (dup : X.N.Nodup) (slot : X.N[i]? = some n) (kd : X.env.kindOf n = some .local) (nm : Names X x c) (noex : X.ex = []) (tk : Takes X Wout)
    (bd : ∀ (W : WX) (pn : List (Addr × Obj)) (xe : Value → Shared → Prop), Takes (X.tr pn xe) W → PassesOwn (model X.prog X.w) X.A X.env xe → PSs (X.tr pn xe) body (tb W))
    (su : ∀ (a : Addr) (ob : Obj) (cls : Value) (d : Option Addr) (pn : List (Addr × Obj)), Zc cls d ob → (∃ vs, ob.data = .fields vs) → PSs (X.suite a ((a, ob) :: pn)) (b₀ :: suite) (ts a cls d)) :
    PS X (.Try body [.ExceptHandler (some (.Name x np)) (some n) (b₀ :: suite) pos'] [] [] pos) (fun D σ H => tb (wKp X.K c i ts Wout D) D σ H) := by
  refine ⟨fun pins s σ H D I h => ?_⟩
  have ok := I.ok
  have frs1 : X.A.frames = some (X.env :: X.outer) := by rw [ok.frames, stk]
  refine wpAny_Try_except ?_
  refine wpAny_mono ((bd (wKp X.K c i ts Wout D) (X.pn ++ pins) (fun ev z1 => wpAny (model X.prog X.w) X.A (noteFrame ev X.env) (fun _ z2 => wpAny (model X.prog X.w) X.A (setFlight ev none) (fun _ z3 =>
    wpAny (model X.prog X.w) X.A (handleBy ev X.env [.ExceptHandler (some (.Name x np)) (some n) (b₀ :: suite) pos']) (SP X pins D) X.xe z3) X.xe z2) X.xe z1) (fun u z xx => ?_) PassesOwn.looking).run [] s σ H D (I.toTry _) h) (fun f z1 hsp => ?_) (fun ev z1 he => he)
  · obtain ⟨a, B, sI, pins1, σ1, H1, cls, d, rfl, J1, nb, up, sky, na, os, ag, b, hb1, hno, hyes⟩ := xx
    have J : Inv X pins σ1 H1 sI := J1.ofTry ok
    have sky1 : Sky B (X.env :: X.outer) a (Zc cls d) X.env.locals z.heap := by rw [← stk]; exact sky
    show wpAny (model X.prog X.w) X.A (noteFrame (.ref a) X.env) _ _ _
    refine Sky.land Zc.steady frs1 fr sky1 fun h3 fl3 up3 => ?_
    have Ba : B.get? a = none := fl3.2.1
    have J3 : Inv X pins σ1 H1 { z with heap := h3 } := J.landed nb fl3.1 (up.trans up3) os ag
    obtain ⟨o3, f3, e3, z3, d3⟩ := fl3.there
    have off : a ∉ frs (X.env :: X.outer) := fun hm => by
      obtain ⟨_, o', e', hnf⟩ := fl3.2.2.1.mem hm
      rw [e3] at e'; cases e'
      exact hnf _ d3
    have nL : a ≠ X.env.locals := fun q => off (List.mem_filterMap.mpr ⟨X.env, List.mem_cons_self, by rw [fr, q]⟩)
    have nF : a ∉ X.fs := fun hm => by
      obtain ⟨ev, he, q⟩ := List.mem_filterMap.mp hm
      exact off (List.mem_filterMap.mpr ⟨ev, List.mem_cons_of_mem _ he, q⟩)
    have young : ∀ {b' : Addr} {o : Obj}, sI.heap.get? b' = some o → b' ≠ a := fun {b' o} q w => by
      have q' := nb b' o q (by rw [w, stk]; exact off)
      rw [w, Ba] at q'
      cases q'
    have old : X.s_0.heap.get? a = none := by
      cases q : X.s_0.heap.get? a with
      | none => rfl
      | some o =>
        obtain ⟨o', q'⟩ := J.base.there a o q (by rw [noex]; exact fun w => nomatch w)
        exact absurd rfl (young q')
    have apart : ∀ p ∈ X.pn ++ pins, p.1 ≠ a := fun p hp => young (J.pin p hp).1
    have S3 := J3.suite e3 d3 na nL nF
    refine wpAny_handleBy_cons (codeAny_handlers_test ?_) (by intro q; cases q)
    have LT : PySem.W.Looks (model X.prog X.w) h3 (typeOf (.ref a)) cls := fun A Q E s k q => wpAny_typeOf_ref (k _ _ e3) (by rw [z3.1]; exact q)
    have LM := PySem.W.exm_one (M := model X.prog X.w) (J3.kIn) LT hb1
    have named : ∀ {Q : Value → Shared → Prop} {E : Value → Shared → Prop}, Q c { z with heap := h3 } → wpAny (model X.prog X.w) (X.A.mark (some (.ref a))) (eval (.Name x np) X.env) Q E { z with heap := h3 } := fun {Q E} q => by
      obtain ⟨hg, hdbg, hm | ⟨hm, hv, hnn⟩⟩ := nm
      · exact ld_glob (X := X.suite a ((a, o3) :: (X.pn ++ pins))) S3 hg hm q hdbg
      · exact ld_blt (X := X.suite a ((a, o3) :: (X.pn ++ pins))) S3 hg hm hv q hnn hdbg
    refine named (LM.here ?_)
    cases b with
    | true =>
      refine codeAny_handlers_suite_as ?_
      refine HandSPX.lands_againZ fl3 fun h4 fl4 up4 => ?_
      have J4 : Inv X pins σ1 H1 { z with heap := h4 } := J.landed nb fl4.1 ((up.trans up3).trans up4) os ag
      obtain ⟨o4, f4, e4, z4, d4⟩ := fl4.there
      have S4 := J4.suite e4 d4 na nL nF
      refine store_ok (X := X.suite a ((a, o4) :: (X.pn ++ pins))) (v := .ref a) S4 dup slot (.inl kd) rfl (fun s5 S5 => ?_) (.inr kd)
      refine wpAny_mono ((su a o4 cls d (X.pn ++ pins) z4 ⟨_, d4⟩).run [] s5 _ H1 _ S5 (hyes rfl a na)) (fun f s6 hsp => ?_) (fun _ _ w => False.elim w)
      have fin : ∀ {σ6 : L2.St} {H6 : Hp} {Q : Shared → Prop}, Inv (X.suite a ((a, o4) :: (X.pn ++ pins))) [] σ6 H6 s6 → (∀ s7, Inv X pins (σ6.set i none) (upd H6 a (ExV cls d a)) s7 → Q s7) →
          wpAny (model X.prog X.w) X.A (do bindName X.env n .none; unbindBehindTheSuite X.env n pos') (fun _ s7 => Q s7) X.xe s6 := fun {σ6 H6 Q} S6 hq => by
        obtain ⟨p1, p2, _⟩ := S6.pin (a, o4) (List.mem_append_left _ List.mem_cons_self)
        exact gone_ok (Inv.track (S6.unsuite ok) p2 old p1 z4 d4 nL apart) dup slot kd hq
      cases f with
      | next =>
        obtain ⟨σ6, H6, S6, q6⟩ := hsp
        exact fin S6 fun s7 J7 => ⟨_, _, J7, q6⟩
      | brk =>
        obtain ⟨σ6, H6, S6, q6⟩ := hsp
        exact fin S6 fun s7 J7 => ⟨_, _, J7, q6⟩
      | cont =>
        obtain ⟨σ6, H6, S6, q6⟩ := hsp
        exact fin S6 fun s7 J7 => ⟨_, _, J7, q6⟩
      | ret u =>
        obtain ⟨v6, σ6, H6, S6, r6, q6⟩ := hsp
        exact fin S6 fun s7 J7 => ⟨_, _, _, J7, r6, q6⟩
    | false =>
      show wpAny _ X.A (handleBy (.ref a) X.env []) _ _ _
      refine wpAny_handleBy_nil ?_
      obtain ⟨k1, k2, k3, ob, fv, T, oT, tv, he, hz, hd, h1, hr⟩ := id fl3
      unfold PySem.passOn
      refine wpAny_bind (wpAny_field he hd h1 ?_)
      rw [if_neg (show ¬ ((Value.ref T == Value.none) = true) from by simp)]
      have on : wpAny (model X.prog X.w) X.A (setFlight (.ref a) X.env.frame) (fun _ s4 => wpAny (model X.prog X.w) X.A (throw (.ref a) : Sem Flow) (SP X pins D) X.xe s4) X.xe { z with heap := h3 } := by
        rw [fr]
        refine HandSPX.setFlight_upZ fl3 fun h4 hh4 up4 => wpAny_throw (tk _ _ ?_)
        exact ⟨a, B, sI, pins, σ1, H1, cls, d, rfl, J, nb, (up.trans up3).trans up4, .inr (.inr (by rw [stk]; exact hh4)), na, os, ag, hno rfl⟩
      first
        | exact wpAny_bind (wpAny_pure (wpAny_bind on))
        | exact wpAny_bind on
  · cases f with
    | next =>
      obtain ⟨σ', H', J', q⟩ := hsp
      exact wpAny_execs_nil ⟨σ', H', J'.ofTry ok, q⟩
    | brk =>
      obtain ⟨σ', H', J', q⟩ := hsp
      exact ⟨σ', H', J'.ofTry ok, q⟩
    | cont =>
      obtain ⟨σ', H', J', q⟩ := hsp
      exact ⟨σ', H', J'.ofTry ok, q⟩
    | ret u =>
      obtain ⟨v, σ', H', J', r, q⟩ := hsp
      exact ⟨v, σ', H', J'.ofTry ok, r, q⟩
def tTryKp (K : PySem.W.Frag) (C : Addr) (i : Nat) (tb : WX → TS) (ts : Addr → Value → Option Addr → TS) : TS := fun D σ H => tb (wKp K (.ref C) i ts (fun _ _ _ _ => False) D) D σ H
end
def tMkA (C : Addr) (t : TA) : L2.St → Hp → XK → Prop := fun σ H Q => t σ H fun vs H1 => vs.length ≤ sizeLine ∧ Q (.ref C) none H1
def tRaiseW (W : WX) (t : L2.St → Hp → XK → Prop) : TS := fun _ σ H => t σ H fun cls d H' => W cls d σ H'
end Wg

/-! Wagon, part 45: repr of data in which dicts may stand at any depth. -/
namespace Wg
open PySem PySem.Spec PyProof.Rows L2
mutual
inductive Dr (K : PySem.W.Frag) (H : Hp) : V → PyData → Prop
  | dp {v : V} {d : PyData} : Dp K H v d → Dr K H v d
  | lst {a : Addr} {xs : List V} {ds : List PyData} : H a = some (.lst xs) → DrAll K H xs ds → Dr K H (.ref a) (.list ds)
  | tup {a : Addr} {xs : List V} {ds : List PyData} : Tup H a xs → DrAll K H xs ds → Dr K H (.ref a) (.tuple ds)
  | dic {a : Addr} {kvs : List (Key × V)} {vs : List V} {ds : List PyData} : H a = some (.dK kvs) → vs = kvs.map (·.2) → DrAll K H vs ds → Dr K H (.ref a) (.dict ((kvs.map fun p => keyD p.1).zip ds))
inductive DrAll (K : PySem.W.Frag) (H : Hp) : List V → List PyData → Prop
  | nil : DrAll K H [] []
  | cons {v : V} {vs : List V} {d : PyData} {ds : List PyData} : Dr K H v d → DrAll K H vs ds → DrAll K H (v :: vs) (d :: ds)
end
theorem DrAll.len {K : PySem.W.Frag} {H : Hp} : ∀ {vs : List V} {ds : List PyData}, DrAll K H vs ds → vs.length = ds.length
  | _, _, .nil => rfl
  | _, _, .cons _ r => congrArg (· + 1) r.len
mutual
theorem Dr.keep {K : PySem.W.Frag} {H H' : Hp} (k : Keep [] H H') : ∀ {v : V} {d : PyData}, Dr K H v d → Dr K H' v d
  | _, _, .dp h => .dp (Dp.keep k h)
  | _, _, .lst h a => .lst (k _ _ nin0 h) (DrAll.keep k a)
  | _, _, .tup h a => .tup (h.keep k nin0) (DrAll.keep k a)
  | _, _, .dic h e a => .dic (k _ _ nin0 h) e (DrAll.keep k a)
theorem DrAll.keep {K : PySem.W.Frag} {H H' : Hp} (k : Keep [] H H') : ∀ {vs : List V} {ds : List PyData}, DrAll K H vs ds → DrAll K H' vs ds
  | _, _, .nil => .nil
  | _, _, .cons h r => .cons (Dr.keep k h) (DrAll.keep k r)
end
section
variable {X : Cx} {pins : List (Addr × Obj)} {σ : L2.St} {H : Hp} {s : Shared}
theorem pairs_keys {P : Program} {w : World} {h : Heap} : ∀ {es : List DictEntry} {kvs : List (Key × V)} {us : List (Key × Value)}, PySem.Pairs (mixKind P w) es us → KV kvs us →
    ReadsAll h (es.map (·.key)) (kvs.map fun p => keyD p.1) [] ∧ Vals (kvs.map (·.2)) (es.map (·.val))
  | _, _, _, .nil, .nil => ⟨.nil, .nil⟩
  | e :: es, (k, v) :: kvs, (k', u) :: us, .cons h1 h2 hr, .cons ⟨q1, q2⟩ qr => by
    obtain ⟨r1, r2⟩ := pairs_keys (h := h) hr qr
    have q1' : k = k' := q1
    have q2' : RelV v u := q2
    have hv : e.val = u := h2
    have hk : keyIs k' e.key = true := h1
    subst q1'
    refine ⟨.cons (as := []) (bs := []) ?_ r1, .cons (by show RelV v e.val; rw [hv]; exact q2') r2⟩
    show Reads h e.key (keyD k) []
    rcases keyIs_shape hk with ⟨i, t, rfl, e2⟩ | ⟨x, t, rfl, e2⟩
    · rw [e2]; exact .int i t
    · rw [e2]; exact .str x t
/-- the rows of a dict, told -/
structure ToldD (P : Program) (w : World) (h : Heap) (a : Addr) (o : Obj) (es : Array DictEntry) (n : Nat) (kvs : List (PyData × PyData)) : Prop where
  at_ : h.get? a = some o
  c : o.cls = .type "dict"
  d : o.data = .dict es n
  sy : (a == sysModules) = false
  r : ∃ as, Reads h (.ref a) (.dict kvs) as
  k : PyData.showableKv kvs = true → (dictText (PyData.shownKv kvs)).length ≤ sizeLine → ∃ bs ps, ReadAtMost h (PyData.depthKv kvs) bs ∧ a ∉ bs ∧ PyData.shownKv kvs = ps ∧ ReprEntriesK P w bs h (PyData.depthKv kvs) es.toList ps
theorem toldD (I : Inv X pins σ H s) {a : Addr} {kvs : List (Key × V)} {ds : List PyData} (h : H a = some (.dK kvs)) (l : (kvs.map (·.2)).length = ds.length) (t : ∀ us, Vals (kvs.map (·.2)) us → ToldAll X.prog X.w s.heap us ds) :
    ∃ o es n, ToldD X.prog X.w s.heap a o es n ((kvs.map fun p => keyD p.1).zip ds) := by
  obtain ⟨z, hsy, ws, kv, o, es, ep, ho, ex, hdat, _, hp, _⟩ := I.hok a _ h
  obtain ⟨r1, v2⟩ := pairs_keys (h := s.heap) hp kv
  have tv := t _ v2
  obtain ⟨av, rv⟩ := tv.r
  have lk : (kvs.map fun p => keyD p.1).length = ds.length := by rw [List.length_map, ← List.length_map (f := (·.2)), l]
  have ek : ((kvs.map fun p => keyD p.1).zip ds).map (·.1) = kvs.map fun p => keyD p.1 := List.map_fst_zip (Nat.le_of_eq lk)
  have ev : ((kvs.map fun p => keyD p.1).zip ds).map (·.2) = ds := List.map_snd_zip (Nat.le_of_eq lk.symm)
  have sy : (a == sysModules) = false := by
    refine beq_eq_false_iff_ne.mpr fun e => ?_
    rw [e] at hsy
    simp at hsy
  generalize hkv : (kvs.map fun p => keyD p.1).zip ds = kvd at *
  have rd : Reads s.heap (.ref a) (PyData.dict kvd) (a :: [] ++ av) := .dict ho ex.1 hdat (by rw [ek]; exact r1) (by rw [ev]; exact rv)
  refine ⟨o, es, _, ho, ex.1, hdat, sy, ⟨_, rd⟩, fun hs hz => ?_⟩
  obtain ⟨hs1, hs2⟩ := PyData.showableKv_split kvd hs
  obtain ⟨b1, hb1, k1⟩ := ReprAllK.of_readsAll (prog := X.prog) (w := X.w) (show ReadsAll s.heap (es.toList.map (·.key)) (kvd.map (·.1)) [] by rw [ek]; exact r1) hs1 (fun _ hm => nomatch hm) (fun t ht => let ⟨p, hp, hl⟩ := PyData.shownKv_key_le kvd t ht; Nat.le_trans hl (Nat.le_trans (dictText_mem_le hp) hz))
  obtain ⟨b2, hb2, k2⟩ := tv.k (by rw [← ev]; exact hs2) (fun t ht => let ⟨p, hp, hl⟩ := PyData.shownKv_val_le kvd t (by rw [ev]; exact ht); Nat.le_trans hl (Nat.le_trans (dictText_mem_le hp) hz))
  have hb2' : ReadAtMost s.heap (PyData.depthAll (kvd.map (·.2))) b2 := by rw [ev]; exact hb2
  have hb : ReadAtMost s.heap (PyData.depthKv kvd) (b1 ++ b2) := (hb1.mono (PyData.depthAll_keys_le kvd)).append (hb2'.mono (PyData.depthAll_vals_le kvd))
  have hna : a ∉ b1 ++ b2 := not_mem_of_deeper rd (by simp only [PyData.depth]; omega) hb
  have k2' : ReprAllK X.prog X.w b2 s.heap (PyData.depthAll (kvd.map (·.2))) (es.toList.map (·.val)) (PyData.shownAll (kvd.map (·.2))) := by rw [ev]; exact k2
  exact ⟨b1 ++ b2, _, hb, hna, PyData.shownKv_eq kvd, ReprEntriesK.of_two es.toList _ _ (k1.more_le (fun b hb => List.mem_append_left _ hb) (PyData.depthAll_keys_le kvd)) (k2'.more_le (fun b hb => List.mem_append_right _ hb) (PyData.depthAll_vals_le kvd))⟩
theorem ToldD.told {P : Program} {w : World} {h : Heap} {a : Addr} {o : Obj} {es : Array DictEntry} {n : Nat} {kvs : List (PyData × PyData)} (t : ToldD P w h a o es n kvs) : Told P w h (.ref a) (.dict kvs) := by
  obtain ⟨as, rd⟩ := t.r
  refine ⟨⟨as, rd⟩, fun hs hz => ?_⟩
  obtain ⟨bs, ps, hb, hna, e, k⟩ := t.k (by simpa only [PyData.showable] using hs) (by simpa only [PyData.shown] using hz)
  have eD : (PyData.dict kvs).depth = PyData.depthKv kvs + 1 := by simp only [PyData.depth]
  refine ⟨a :: bs, ReadAtMost.cons rd (by rw [eD]; omega) hb, ?_⟩
  simp only [PyData.depth, PyData.shown]
  rw [e]
  exact ReprK.dict t.at_ t.c t.d t.sy hna k
mutual
theorem Dr.told (I : Inv X pins σ H s) : ∀ {d : PyData} {v : V} {u : Value}, Dr X.K H v d → RelV v u → Told X.prog X.w s.heap u d
  | _, _, _, .dp h, r => told_dp I h r
  | _, _, _, .lst hs ha, r => by
    cases r
    obtain ⟨its, rv, ⟨o, n, ho, hc, _, hd⟩, _⟩ := I.list (lst_sq (K := X.K) hs)
    exact Told.list ho hc hd (DrAll.told I ha rv)
  | _, _, _, .tup hs ha, r => by
    cases r
    obtain ⟨its, n, rv, _, ho⟩ := hs.obj I
    exact Told.tuple ho rfl rfl (DrAll.told I ha rv)
  | _, _, _, .dic hs e ha, r => by
    cases r
    obtain ⟨o, es, n, t⟩ := toldD I hs (by rw [← e]; exact ha.len) fun us rv => DrAll.told I ha (by rw [e]; exact rv)
    exact t.told
theorem DrAll.told (I : Inv X pins σ H s) : ∀ {ds : List PyData} {vs : List V} {us : List Value}, DrAll X.K H vs ds → Vals vs us → ToldAll X.prog X.w s.heap us ds
  | _, _, _, .nil, r => by
    cases r
    exact ToldAll.none
  | _, _, _, .cons h1 h2, r => by
    cases r with
    | cons r1 r2 => exact ToldAll.more (Dr.told I h1 r1) (DrAll.told I h2 r2)
end
end
def uReprX (K : PySem.W.Frag) : List V → Hp → VK → Prop := fun xs H Q => ∃ (v : V) (d : PyData), xs = [v] ∧ Dr K H v d ∧ fine d ∧ d.depth ≤ 100 ∧ cost d ≤ 10000000 ∧ Q (.str d.shown) H
theorem call_uReprX {X : Cx} (hr : Rm 1 X.A) : CallR X (.builtin "repr") (uReprX X.K) := by
  intro pins s σ H xs us Q I r h
  obtain ⟨v, d, rfl, hd, hf, hdep, hz, q⟩ := h
  have hs := fine_show hf
  have hz' : d.shown.length ≤ sizeLine := Nat.le_trans (shown_le hf) (line_big hz)
  have hu : X.A.units + (d.depth + 1) < cLine := by
    have := hr.rm.un
    omega
  have dpc : ∀ {v : V} {d : PyData}, Dp X.K H v d → d.showable = true → d.depth ≤ 100 → d.shown.length ≤ sizeLine → Q (.str d.shown) H → Vals [v] us → wpAny (model X.prog X.w) X.A (call (.builtin "repr") us) (EP X pins σ Q) X.xe s :=
    fun {v d} h1 h2 h3 h4 q r => call_uRep hr pins s σ H _ us Q I r (.inl ⟨v, d, rfl, h1, h2, h3, h4, q⟩)
  cases hd with
  | dp h => exact dpc h hs hdep hz' q r
  | @lst a xs ds hl ha =>
    cases ha with
    | nil => exact dpc (.lst (lst_sq hl) .nil) hs hdep hz' q r
    | @cons v0 vs d0 ds h0 h1 =>
      obtain ⟨u, rfl, rx⟩ := vals1 r
      cases rx
      obtain ⟨its, rv, ⟨o, n, ho, hc, _, hdt⟩, _⟩ := I.list (lst_sq (K := X.K) hl)
      have t := DrAll.told I (.cons h0 h1) rv
      have eS : (PyData.list (d0 :: ds)).shown = listText (PyData.shownAll (d0 :: ds)) := by simp only [PyData.shown]
      have eD : (PyData.list (d0 :: ds)).depth = PyData.depthAll (d0 :: ds) + 1 := by simp only [PyData.depth]
      rw [eS] at hz'
      obtain ⟨as, ra⟩ := t.r
      obtain ⟨bs, hb, hk⟩ := t.k (by simpa only [PyData.showable] using hs) fun x hx => Nat.le_trans (listText_mem_le hx) hz'
      have rr : Reads s.heap (.ref a) (.list (d0 :: ds)) (a :: as) := .list ho hc hdt ra
      have hna : a ∉ bs := not_mem_of_deeper rr (by rw [eD]; omega) hb
      cases its with
      | nil => cases rv
      | cons x l =>
        refine call_repr_slot (T := "list") (idr := "list.__repr__") (by omega) ⟨_, ho, hc⟩ F.slot_list_repr.toG (call_list_reprK ho hc hdt hna (by simpa using hk.length_eq) (fun i y q => hk.item i y (by simpa using q)) hr.gd (fun b _ => Clear.nil b) (by show X.A.units + 1 + _ < cLine; omega) (fun _ _ e => e) (fun h' u tk hkp => ⟨_, _, rfl, ?_⟩) hz')
        rw [← eS]
        exact ⟨.str _, H, I.kept (t' := tk) hkp, ⟨_, rfl⟩, q⟩
  | @tup a xs ds ht ha =>
    obtain ⟨u, rfl, rx⟩ := vals1 r
    cases rx
    obtain ⟨its, n, rv, _, ho⟩ := ht.obj I
    have t := DrAll.told I ha rv
    have eS : (PyData.tuple ds).shown = tupleText (PyData.shownAll ds) := by simp only [PyData.shown]
    have eD : (PyData.tuple ds).depth = PyData.depthAll ds + 1 := by simp only [PyData.depth]
    rw [eS] at hz'
    obtain ⟨as, ra⟩ := t.r
    obtain ⟨bs, hb, hk⟩ := t.k (by simpa only [PyData.showable] using hs) fun x hx => Nat.le_trans (tupleText_mem_le hx) hz'
    have rr : Reads s.heap (.ref a) (.tuple ds) as := .tuple ho rfl rfl ra
    have hna : a ∉ bs := not_mem_of_deeper rr (by rw [eD]; omega) hb
    refine call_repr_slot (T := "tuple") (idr := "tuple.__repr__") (by omega) ⟨_, ho, rfl⟩ F.slot_tuple_repr (call_tuple_reprK ho rfl rfl hna hk hr.gd (fun b _ => Clear.nil b) (by show X.A.units + 1 + _ < cLine; omega) (fun _ _ e => e) (fun h' u tk hkp => ⟨_, _, rfl, ?_⟩) hz')
    rw [← eS]
    exact ⟨.str _, H, I.kept (t' := tk) hkp, ⟨_, rfl⟩, q⟩
  | @dic a kvs vs ds h e ha =>
    obtain ⟨u, rfl, rx⟩ := vals1 r
    cases rx
    obtain ⟨o, es, n, t⟩ := toldD I h (by rw [← e]; exact ha.len) fun us rv => DrAll.told I ha (by rw [e]; exact rv)
    generalize (kvs.map fun p => keyD p.1).zip ds = kvd at *
    have eS : (PyData.dict kvd).shown = dictText (PyData.shownKv kvd) := by simp only [PyData.shown]
    have eD : (PyData.dict kvd).depth = PyData.depthKv kvd + 1 := by simp only [PyData.depth]
    rw [eS] at hz'
    obtain ⟨bs, ps, hb, hna, ep, hk⟩ := t.k (by simpa only [PyData.showable] using hs) hz'
    rw [ep] at hz' eS
    refine call_repr_slot (T := "dict") (idr := "dict.__repr__") (by omega) ⟨_, t.at_, t.c⟩ F.slot_dict_repr (call_dict_reprK t.at_ t.c t.d t.sy hna hk hr.gd (fun b _ => Clear.nil b) (by show X.A.units + 1 + _ < cLine; omega) (fun _ _ e => e) (fun h' u tk hkp => ⟨_, _, rfl, ?_⟩) hz')
    rw [← eS]
    exact ⟨.str _, H, I.kept (t' := tk) hkp, ⟨_, rfl⟩, q⟩
theorem g_repX {K : PySem.W.Frag} {H : Hp} {v : V} {d : PyData} {Q : VK} (h : Dr K H v d) (f : fine d) (l : d.depth ≤ 100) (c : cost d ≤ 10000000) (q : Q (.str d.shown) H) : uReprX K [v] H Q := ⟨v, d, rfl, h, f, l, c, q⟩
end Wg

namespace Wg
open PySem PySem.Spec PyProof.Rows L2
/-! ### exceptions as things -/
def MkV (K : PySem.W.Frag) (C : Addr) (fs : List Str) (ws : List V) (H : Hp) (Q : VK) : Prop := ws.length ≤ 1000 ∧ ∀ a, H a = none → spIni K C fs (.ref a :: (ws ++ [])) (upd H a (exo a C none))
  (fun v H2 => v = .non ∧ ∃ (d : Addr) (gs : List (Str × V)), H2 a = some (exo a C (some d)) ∧ H2 d = some (exd d gs) ∧ H d = none ∧ ∀ a2, (upd (del H2 a) d (.xd gs)) a2 = none → Q (.ref a2) (upd (upd (del H2 a) d (.xd gs)) a2 (ExV (.ref C) (some d) a2))) (fun _ _ _ => False)
theorem e_mkV {K : PySem.W.Frag} {C : Addr} {fs : List Str} {ta : TA} {σ : L2.St} {H : Hp} {Q : VK} : tMkV (tMkO C (spIni K C fs) [] ta) σ H Q ↔ ta σ H (fun vs H1 => MkV K C fs vs H1 Q) := Iff.rfl
def MkA (C : Addr) (ws : List V) (H : Hp) (Q : VK) : Prop := ws.length ≤ sizeLine ∧ ∀ a, H a = none → Q (.ref a) (upd H a (ExV (.ref C) none a))
theorem e_mkA {C : Addr} {ta : TA} {σ : L2.St} {H : Hp} {Q : VK} : tMkV (tMkA C ta) σ H Q ↔ ta σ H (fun vs H1 => MkA C vs H1 Q) := Iff.rfl
def RaW (K : PySem.W.Frag) (W : WX) (C : Addr) (fs : List Str) (σ : L2.St) (ws : List V) (H : Hp) : Prop := ws.length ≤ 1000 ∧ ∀ a, H a = none → spIni K C fs (.ref a :: (ws ++ [])) (upd H a (exo a C none))
  (fun v H2 => v = .non ∧ ∃ (d : Addr) (gs : List (Str × V)), H2 a = some (exo a C (some d)) ∧ H2 d = some (exd d gs) ∧ H d = none ∧ W (.ref C) (some d) σ (upd (del H2 a) d (.xd gs))) (fun _ _ _ => False)
theorem e_raW {K : PySem.W.Frag} {W : WX} {C : Addr} {fs : List Str} {ta : TA} {D : Ends} {σ : L2.St} {H : Hp} : tRaiseW W (tMkO C (spIni K C fs) [] ta) D σ H ↔ ta σ H (fun vs H1 => RaW K W C fs σ vs H1) := Iff.rfl
/-- an exception of the class C with the fields fs, as it stands in the heap -/
def EAt (H : Hp) (a C : Addr) (fs : List (Str × V)) : Prop := ∃ d, H a = some (ExV (.ref C) d a) ∧ ((d = none ∧ fs = []) ∨ ∃ dd, d = some dd ∧ H dd = some (.xd fs))
theorem EAt.keep {H H' : Hp} {a C : Addr} {fs : List (Str × V)} (h : EAt H a C fs) (k : Keep [] H H') : EAt H' a C fs := by
  obtain ⟨d, e, h⟩ := h
  refine ⟨d, k _ _ nin0 e, ?_⟩
  rcases h with h | ⟨dd, ed, h⟩
  · exact .inl h
  · exact .inr ⟨dd, ed, k _ _ nin0 h⟩
theorem EAt.ea {K : PySem.W.Frag} {H : Hp} {a C : Addr} {fs : List (Str × V)} (h : EAt H a C fs) (T : ExA K C) : ExcAt K H a C fs := ⟨T, h⟩
theorem g_mkV {K : PySem.W.Frag} {C : Addr} {fs : List Str} {ws : List V} {H : Hp} {Q : VK} (l : ws.length = fs.length) (l2 : ws.length ≤ 1000) (q : ∀ a H', Keep [] H H' → EAt H' a C (fs.zip ws).reverse → Q (.ref a) H') : MkV K C fs ws H Q := by
  refine g_mkO (σ := []) (Q := fun cls d H' => ∀ a, H' a = none → Q (.ref a) (upd H' a (ExV cls d a))) l l2 fun d nd a na => ?_
  have ne : d ≠ a := fun z => by rw [← z, upd_same] at na; cases na
  refine q a _ ((Keep.new nd).trans (Keep.new na)) ⟨some d, upd_same, .inr ⟨d, rfl, ?_⟩⟩
  rw [upd_ne ne, upd_same]
theorem g_mkA {C : Addr} {ws : List V} {H : Hp} {Q : VK} (l : ws.length ≤ 1000) (q : ∀ a H', Keep [] H H' → EAt H' a C [] → Q (.ref a) H') : MkA C ws H Q :=
  ⟨len_le (by omega), fun a na => q a _ (Keep.new na) ⟨none, upd_same, .inl ⟨rfl, rfl⟩⟩⟩
theorem rel_refX {C : Addr} : ∀ u, RelV (.ref C) u → u = .ref C := fun u r => r
theorem rel_tyX {T : String} : ∀ u, RelV (.ty T) u → u = .type T := fun u r => r
theorem g_isV {K : PySem.W.Frag} {H : Hp} {a C c : Addr} {fs : List (Str × V)} {b : Bool} {Q : VK} (h : ExcAt K H a C fs) (k : PySem.W.kitOne K (.ref C) (.ref c) = some b) (q : Q (.bl b) H) : rIsV K [.ref a, .ref c] H Q :=
  ⟨a, C, fs, .ref c, rfl, h, .inl ⟨_, b, rel_refX, k, q⟩⟩
theorem g_isVT {K : PySem.W.Frag} {H : Hp} {a C : Addr} {T : String} {fs : List (Str × V)} {b : Bool} {Q : VK} (h : ExcAt K H a C fs) (k : PySem.W.kitOne K (.ref C) (.type T) = some b) (q : Q (.bl b) H) : rIsV K [.ref a, .ty T] H Q :=
  ⟨a, C, fs, .ty T, rfl, h, .inl ⟨_, b, rel_tyX, k, q⟩⟩
def XfV (K : PySem.W.Frag) (f : Str) (Q : VK) (x : V) (H1 : Hp) : Prop := ∃ (a C : Addr) (fs : List (Str × V)) (v : V), x = .ref a ∧ ExcAt K H1 a C fs ∧ PySem.W.findIn K (.ref C) f = some none ∧ fs.lookup f = some v ∧ Q v H1
theorem e_xfV {K : PySem.W.Frag} {f : Str} {te : TE} {σ : L2.St} {H : Hp} {Q : VK} : tXfV K f te σ H Q ↔ te σ H (XfV K f Q) := Iff.rfl
theorem g_xfV {K : PySem.W.Frag} {f : Str} {a C : Addr} {fs : List (Str × V)} {v : V} {H : Hp} {Q : VK} (h : ExcAt K H a C fs) (no : PySem.W.findIn K (.ref C) f = some none) (l : fs.lookup f = some v) (q : Q v H) : XfV K f Q (.ref a) H := ⟨a, C, fs, v, rfl, h, no, l, q⟩
end Wg

/-! Wagon, part 47: sorted of a tuple of alike data. -/
namespace Wg
open PySem PySem.Spec PyProof.Rows PySem.W
section
variable {prog : Program} {w : World} {A : Around} {E : Value → Shared → Prop} {s : Shared} {l : Addr} {vs : List Value} {ob : Obj} {n : Nat}
theorem collect_tupV {Q : List Value → Shared → Prop} (at_ : s.heap.get? l = some ob) (cl_ : ob.cls = .type "tuple") (dt : ob.data = .seq vs.toArray n) (few : vs.length ≤ sizeLine)
    (q : Q vs { s with heap := (s.heap.push (seqObj "list" #[] 0)).update s.heap.objs.size (Obj.mapSeq (· ++ vs.toArray)) }) : wpAny (model prog w) A (collect (.ref l)) Q E s := by
  unfold collect
  refine wpAny_bind (wpAny_runValue (codeAny_builtin entry_proto_collect' ?_))
  show wpAny _ _ (do again (.builtin "list.__iadd__" ⟨[← newList [], .ref l], []⟩)) _ _ s
  refine wpAny_bind (wpAny_newList (wpAny_pure ⟨Code.quiet_builtin _ (by decide +kernel), codeAny_builtin entry_list_iadd' ?_⟩))
  show wpAny _ _ (Builtin.List.listExtendWith (.ref s.heap.objs.size) (.ref l) (.ref s.heap.objs.size)) _ _ { s with heap := s.heap.push (seqObj "list" #[] 0) }
  unfold Builtin.List.listExtendWith
  have at2 : (s.heap.push (seqObj "list" #[] 0)).get? l = some ob := Heap.get?_push_of_some _ at_
  refine wpAny_bind (wpAny_typeOf (T := "tuple") ⟨ob, at2, cl_⟩ ?_)
  have same : (Value.type "tuple" == Value.type "tuple") = true := by rfl
  rw [if_pos (by rw [same]; simp)]
  refine wpAny_bind (listItems_at at2 dt ?_)
  refine wpAny_bind (listItems_at (xs := #[]) (n := 0) (Heap.get?_push_size _ rfl) rfl ?_)
  rw [if_neg (by simp)]
  refine wpAny_bind (listUpdate_at (xs := #[]) (n := 0) (Heap.get?_push_size _ rfl) rfl ?_ (Nat.zero_le _) (by show (#[] ++ vs.toArray).size ≤ sizeLine + 1; simp only [Array.size_append, List.size_toArray, List.length_nil]; omega))
  refine wpAny_pure ?_
  show wpAny (model prog w) A (do
      let o ← load s.heap.objs.size
      match o.data with
      | .seq xs _ => pure xs.toList
      | _ => unsupported "internal:collect") Q E { s with heap := (s.heap.push (seqObj "list" #[] 0)).update s.heap.objs.size (Obj.mapSeq (· ++ vs.toArray)) }
  refine wpAny_bind (wpAny_load (get?_update_seq (Heap.get?_push_size _ rfl) _) ?_)
  show wpAny _ _ (pure ((#[] : Array Value) ++ vs.toArray).toList) Q E _
  rw [show ((#[] : Array Value) ++ vs.toArray).toList = vs by simp]
  exact wpAny_pure q
theorem sortT_vals {κ : PyProof.Rows.KeyKind} {Q : Value → Shared → Prop} (at_ : s.heap.get? l = some ob) (cl_ : ob.cls = .type "tuple") (dt : ob.data = .seq vs.toArray n) (few : vs.length ≤ sizeLine)
    (S : SortsAt prog w A.in1.in1 { s with heap := sortingHeap (copyHeap s.heap vs) (s.heap.objs.size + 1) vs } κ vs)
    (q : Q (.ref (s.heap.objs.size + 1)) { s with heap := sortedAll s.heap vs (sortVals κ false vs vs).toArray }) : wpAny (model prog w) A (call (.builtin "sorted") [.ref l]) Q E s := by
  refine call_function_entry_kw kind_sorted plain_sorted entry_sorted (args_sorted1 _) ?_
  unfold Builtin.«sorted»
  refine wpAny_bind (m := checkCount "sorted" 1 1 _) (wpAny_pure ?_)
  refine wpAny_bind (collect_tupV at_ cl_ dt few ?_)
  refine wpAny_bind (wpAny_newList ?_ few)
  have sz : ((s.heap.push (seqObj "list" #[] 0)).update s.heap.objs.size (Obj.mapSeq (· ++ vs.toArray))).objs.size = s.heap.objs.size + 1 := by
    rw [Heap.size_update, size_push']
  show wpAny _ _ _ _ _ { s with heap := copyHeap s.heap vs }
  rw [sz]
  refine wpAny_bind (wpAny_holding (wpAny_call_entry_kw slot_list_sort ⟨_, copyHeap_at s.heap vs, rfl⟩ entry_list_sort ?_ (args_list_sort _)))
  show wpAny (model prog w) A.in1.in1 (Builtin.«list.sort» ⟨[.ref (s.heap.objs.size + 1)], []⟩) _ _ _
  refine wpAny_mono (list_sort_vals (s := { s with heap := copyHeap s.heap vs }) (P := fun f s' => f = .done (.ret .none) ∧ Q (.ref (s.heap.objs.size + 1)) s') (copyHeap_at s.heap vs) S few ⟨rfl, q⟩) (fun f s' hf => ?_) fun _ _ e => e
  obtain ⟨rfl, hq⟩ := hf
  exact ⟨_, rfl, wpAny_pure ⟨_, rfl, hq⟩⟩
theorem sortT_data {β : Type} {R : Value → β → Prop} {enc : β → PyData} {bs : List β} {Q : Value → Shared → Prop} (at_ : s.heap.get? l = some ob) (cl_ : ob.cls = .type "tuple") (dt : ob.data = .seq vs.toArray n) (e : EachIs R vs bs) (er : EachIs (fun v b => ∃ as, Reads s.heap v (enc b) as) vs bs)
    (hal : AllAlike (bs.map enc)) (hk : Sortable (bs.map enc)) (few : bs.length ≤ sizeLine) (hu : ∀ b, b ∈ bs → A.units + 2 + (enc b).depth < cLine)
    (q : ∀ out, out.length = bs.length → EachIs R out (bs.mergeSort (dataLe false enc)) → Q (.ref (s.heap.objs.size + 1)) { s with heap := sortedAll s.heap vs (List.toArray out) }) :
    wpAny (model prog w) A (call (.builtin "sorted") [.ref l]) Q E s := by
  have er2 : EachIs (fun v b => ∃ as, Reads (sortingHeap (copyHeap s.heap vs) (s.heap.objs.size + 1) vs) v (enc b) as) vs bs := er.mono fun _ _ ⟨as, r⟩ => ⟨as, PyProof.Rows.Reads.keeps (fun _ _ => sorting_copy_old) r⟩
  exact sortT_vals at_ cl_ dt (by rw [e.length]; exact few) (SortsAt.data (s := { s with heap := sortingHeap (copyHeap s.heap vs) (s.heap.objs.size + 1) vs }) (each_map (R := fun v d => ∃ as, Reads (sortingHeap (copyHeap s.heap vs) (s.heap.objs.size + 1) vs) v d as) enc er2) hal hk (bound_map hu))
    (q _ (by rw [sortVals_length false rfl]; exact e.length) (sortVals_data false e er2 hal))
end
end Wg
namespace Wg
open PySem PySem.Spec PyProof.Rows L2
/-- sorted(tuple of alike data) -/
def uSortedT (K : PySem.W.Frag) : List V → Hp → VK → Prop := fun vs H Q => ∃ (α : Type) (RR : V → α → Prop) (enc : α → PyData) (a : Addr) (xs : List V) (rs : List α), vs = [.ref a] ∧ Tup H a xs ∧ PySem.W.EachIs RR xs rs ∧ xs.length ≤ 1000 ∧
  (∀ x r, RR x r → Dp K H x (enc r)) ∧ PySem.W.AllAlike (rs.map enc) ∧ PySem.W.Sortable (rs.map enc) ∧ (∀ r ∈ rs, (enc r).depth ≤ 50) ∧
  ∀ ys, ys.length = xs.length → PySem.W.EachIs RR ys (rs.mergeSort (PySem.W.dataLe false enc)) → Mk H (.lst ys) Q
theorem call_uSortedT {X : Cx} (hu : X.A.units + 64 < cLine) : CallR X (.builtin "sorted") (uSortedT X.K) := by
  intro pins s σ H vs us Q I r h
  obtain ⟨α, RR, enc, a, xs, rs, rfl, ht, he, few, hd, ha, hk, hdp, q⟩ := h
  obtain ⟨its, n, rv, _, ho⟩ := ht.obj I
  obtain ⟨u, rfl, ru⟩ := vals1 r
  obtain rfl : u = Value.ref a := ru
  have er := each_vals rv he
  have lz : rs.length ≤ sizeLine := len_le (by rw [← he.length]; omega)
  refine sortT_data (R := fun u r => ∃ x, RelV x u ∧ RR x r) ho rfl rfl er (er.mono fun u r ⟨x, h1, h2⟩ => Dp.reads I _ _ _ (hd x r h2) h1) ha hk lz (fun b hb => by have := hdp b hb; omega) fun out lo eo => ?_
  obtain ⟨ys, v1, e1⟩ := vals_each eo
  obtain ⟨m, hm⟩ := sortedAll_at s.heap its (List.toArray out)
  have hly : ys.length = xs.length := by rw [v1.length, lo, he.length]
  refine ⟨.ref (s.heap.objs.size + 1), upd H (s.heap.objs.size + 1) (.lst ys), I.laid (t' := s.toks) (fun b o e => sortedAll_old e) (Nat.le_succ _) ⟨by rw [hly, he.length]; exact lz, out, m, v1, hm⟩, rfl, ?_⟩
  have nf := I.hok.fresh (Nat.le_succ s.heap.objs.size)
  exact q ys hly e1 _ _ nf (Keep.new nf) upd_same
end Wg

namespace Wg
open PySem PySem.Spec PyProof.Rows L2
def topS (i : Nat) : Stmt := PySem.Challenge.pw_wagoncalls_k09_towns_told_too_long.main.body.getD i (.Pass ⟨0, 0, 0, 0⟩)
/-! wagoncalls_k09_towns_told_too_long: the text and the derivations, written by gen.py -/
abbrev s_NoText____init___ : Stmt := inClass (topS 2) 0
abbrev N_NoText____init__ : List Str := ["self", "row"]
theorem sc_NoText____init__ : FnScope N_NoText____init__ ["self", "row"] (defScope s_NoText____init___) := ⟨rfl, rfl, rfl, by decide +kernel, rfl, by decide +kernel, by decide +kernel⟩
theorem dv_NoText____init__ {P : Program} {w : World} {K : PySem.W.Frag} {mg : Str → Option Value} {b : Heap} {a C W : Addr} {dd : FuncData} (F : FnM K "__init__" "NoText.__init__" s_NoText____init___ a dd ["self", "row"]) (B : BasW K W) (g : mg "WagonError" = some (.ref W)) (T : OexC K C) (no_row : PySem.W.findIn K (.ref C) "row" = some none) :
    FnOk P w K mg b CX0 2 a dd ["self", "row"] (spIni K C ["row"]) :=
  Fun.ok F.fn sc_NoText____init__ (fun vs H Q E h => by obtain ⟨x, ws, rfl, l, _⟩ := h; show ws.length + 1 = _; rw [l]; rfl) fun cdv A o s H vs Q E hr h =>
    ⟨_, (pss_cons (ps_expr (pe_winit B (by rfl) g (pa_cons (pv 0) (pa_cons pe_str pa_nil)))) (pss_one (ps_ost (pv 0) (pv 1)))), rd_ini1 (m := "no such text") T no_row h⟩

abbrev s_NoPaper____init___ : Stmt := inClass (topS 3) 0
abbrev N_NoPaper____init__ : List Str := ["self", "word", "at"]
theorem sc_NoPaper____init__ : FnScope N_NoPaper____init__ ["self", "word", "at"] (defScope s_NoPaper____init___) := ⟨rfl, rfl, rfl, by decide +kernel, rfl, by decide +kernel, by decide +kernel⟩
theorem dv_NoPaper____init__ {P : Program} {w : World} {K : PySem.W.Frag} {mg : Str → Option Value} {b : Heap} {a C W : Addr} {dd : FuncData} (F : FnM K "__init__" "NoPaper.__init__" s_NoPaper____init___ a dd ["self", "word", "at"]) (B : BasW K W) (g : mg "WagonError" = some (.ref W)) (T : OexC K C) (no_word : PySem.W.findIn K (.ref C) "word" = some none) (no_at : PySem.W.findIn K (.ref C) "at" = some none) :
    FnOk P w K mg b CX0 2 a dd ["self", "word", "at"] (spIni K C ["word", "at"]) :=
  Fun.ok F.fn sc_NoPaper____init__ (fun vs H Q E h => by obtain ⟨x, ws, rfl, l, _⟩ := h; show ws.length + 1 = _; rw [l]; rfl) fun cdv A o s H vs Q E hr h =>
    ⟨_, (pss_cons (ps_expr (pe_winit B (by rfl) g (pa_cons (pv 0) (pa_cons pe_str pa_nil)))) (pss_cons (ps_ost (pv 0) (pv 1)) (pss_one (ps_ost (pv 0) (pv 2))))), rd_ini2 (m := "no such paper") T no_word no_at h⟩

abbrev s_NoCall____init___ : Stmt := inClass (topS 4) 0
abbrev N_NoCall____init__ : List Str := ["self", "name"]
theorem sc_NoCall____init__ : FnScope N_NoCall____init__ ["self", "name"] (defScope s_NoCall____init___) := ⟨rfl, rfl, rfl, by decide +kernel, rfl, by decide +kernel, by decide +kernel⟩
theorem dv_NoCall____init__ {P : Program} {w : World} {K : PySem.W.Frag} {mg : Str → Option Value} {b : Heap} {a C W : Addr} {dd : FuncData} (F : FnM K "__init__" "NoCall.__init__" s_NoCall____init___ a dd ["self", "name"]) (B : BasW K W) (g : mg "WagonError" = some (.ref W)) (T : OexC K C) (no_name : PySem.W.findIn K (.ref C) "name" = some none) :
    FnOk P w K mg b CX0 2 a dd ["self", "name"] (spIni K C ["name"]) :=
  Fun.ok F.fn sc_NoCall____init__ (fun vs H Q E h => by obtain ⟨x, ws, rfl, l, _⟩ := h; show ws.length + 1 = _; rw [l]; rfl) fun cdv A o s H vs Q E hr h =>
    ⟨_, (pss_cons (ps_expr (pe_winit B (by rfl) g (pa_cons (pv 0) (pa_cons pe_str pa_nil)))) (pss_one (ps_ost (pv 0) (pv 1)))), rd_ini1 (m := "no such call") T no_name h⟩

abbrev s_is_whole_ : Stmt := topS 18
abbrev N_is_whole : List Str := ["thing"]
theorem sc_is_whole : FnScope N_is_whole ["thing"] (defScope s_is_whole_) := ⟨rfl, rfl, rfl, by decide +kernel, rfl, by decide +kernel, by decide +kernel⟩
def t_is_whole (K : PySem.W.Frag) : TS :=
  tRet (tAndT K (tCB (rIsi K) (tCons (tVar 0) (tCons (tC (.ty "int")) (tNil)))) (tNotT K (tCB (rIsi K) (tCons (tVar 0) (tCons (tC (.ty "bool")) (tNil))))))
theorem dv_is_whole {P : Program} {w : World} {K : PySem.W.Frag} {mg : Str → Option Value} {b : Heap} {a : Addr} {d : FuncData} {sp : Sp} (F : Fn K mg "is_whole" s_is_whole_ a d ["thing"])
    (n_isinstance : mg "isinstance" = none)
    (n_int : mg "int" = none)
    (n_bool : mg "bool" = none)
    (len : ∀ vs H Q E, sp vs H Q E → vs.length = 1)
    (rd : ∀ vs H Q E, sp vs H Q E → run (t_is_whole K) (start N_is_whole vs) H Q) : Keeps P w K mg b CX0 2 a d ["thing"] sp := by
  refine keeps0 F.fn sc_is_whole len fun cdv A o s H vs Q E hr h => ⟨t_is_whole K, ?_, rd vs H Q E h⟩
  unfold t_is_whole 
  exact (pss_one (ps_ret (pe_andT (pe_callB call_isi (by rfl) n_isinstance (by decide +kernel) (pa_cons (pv 0) (pa_cons (pe_bltn (v := .ty "int") (by rfl) n_int (by decide +kernel) rfl) pa_nil))) (pe_one (pe_notT (pe_callB call_isi (by rfl) n_isinstance (by decide +kernel) (pa_cons (pv 0) (pa_cons (pe_bltn (v := .ty "bool") (by rfl) n_bool (by decide +kernel) rfl) pa_nil))))))))

abbrev s_is_within_ : Stmt := topS 19
abbrev N_is_within : List Str := ["thing", "least", "most"]
theorem sc_is_within : FnScope N_is_within ["thing", "least", "most"] (defScope s_is_within_) := ⟨rfl, rfl, rfl, by decide +kernel, rfl, by decide +kernel, by decide +kernel⟩
def t_is_within (K : PySem.W.Frag) (s_is_whole : Sp) : TS :=
  tRet (tAndT K (tGo s_is_whole E0 (tCons (tVar 0) (tNil))) (tChain (rI0 fun i j => .bl (decide (i ≤ j))) (rI0 fun i j => .bl (decide (i ≤ j))) (tVar 1) (tVar 0) (tVar 2)))
theorem dv_is_within {P : Program} {w : World} {K : PySem.W.Frag} {mg : Str → Option Value} {b : Heap} {a : Addr} {d : FuncData} {sp : Sp} (F : Fn K mg "is_within" s_is_within_ a d ["thing", "least", "most"])
    {a_is_whole : Addr} {d_is_whole : FuncData} {s_is_whole : Sp} (F_is_whole : Fn K mg "is_whole" s_is_whole_ a_is_whole d_is_whole ["thing"]) (k_is_whole : Keeps P w K mg b CX0 2 a_is_whole d_is_whole ["thing"] s_is_whole)
    (len : ∀ vs H Q E, sp vs H Q E → vs.length = 3)
    (rd : ∀ vs H Q E, sp vs H Q E → run (t_is_within K s_is_whole) (start N_is_within vs) H Q) : Keeps P w K mg b CX0 3 a d ["thing", "least", "most"] sp := by
  refine keeps0 F.fn sc_is_within len fun cdv A o s H vs Q E hr h => ⟨t_is_within K s_is_whole, ?_, rd vs H Q E h⟩
  unfold t_is_within 
  exact (pss_one (ps_ret (pe_andT (pe_go k_is_whole (hr.mono (by decide)) rfl F_is_whole.g F_is_whole.fn.kp F_is_whole.b pass0 (pa_cons (pv 0) pa_nil)) (pe_one (pe_chain op_le op_le (pv 1) (pv 0) (pv 2))))))

abbrev s_is_name_ : Stmt := topS 20
abbrev N_is_name : List Str := ["thing", "sign"]
theorem sc_is_name : FnScope N_is_name ["thing"] (defScope s_is_name_) := ⟨rfl, rfl, rfl, by decide +kernel, rfl, by decide +kernel, by decide +kernel⟩
def t_is_name_r1 (K : PySem.W.Frag) (P_is_name : Addr) : TS :=
  tRet (tAndT K (tOp (uIn K false) (tOp (uIx K) (tVar 0) (tC (.int 0))) (tC (.str "abcdefghijklmnopqrstuvwxyz"))) (tGen P_is_name (iU K (tVar 0)) (gName 1) (tYes) (tOp (uIn K false) (tVar 1) (tC (.str "abcdefghijklmnopqrstuvwxyz0123456789"))) [1] false))
def t_is_name (K : PySem.W.Frag) (P_is_name : Addr) : TS :=
  tSeq (tIfS (tOr (tNot (tTru K (tCB (rIsi K) (tCons (tVar 0) (tCons (tC (.ty "str")) (tNil)))))) (tNot (tTest (tChain (rI0 fun i j => .bl (decide (i ≤ j))) (rI0 fun i j => .bl (decide (i ≤ j))) (tC (.int 1)) (tCB (uLen K) (tCons (tVar 0) (tNil))) (tC (.int 8)))))) (tRet (tC (.bl false))) (tNext)) (t_is_name_r1 K P_is_name)
theorem dv_is_name {P : Program} {w : World} {K : PySem.W.Frag} {mg : Str → Option Value} {b : Heap} {a : Addr} {d : FuncData} {sp : Sp} (F : Fn K mg "is_name" s_is_name_ a d ["thing"])
    {tc_is_name P_is_name : Addr} (hcd : d.code = .ref tc_is_name) (TB : GxR.TabB b mg tc_is_name P_is_name)
    (n_isinstance : mg "isinstance" = none)
    (n_str : mg "str" = none)
    (n_len : mg "len" = none)
    {k_LONGEST_NAME : Tok} (c_LONGEST_NAME : mg "LONGEST_NAME" = some (.int 8 k_LONGEST_NAME))
    {k_LETTERS : Tok} (c_LETTERS : mg "LETTERS" = some (.str "abcdefghijklmnopqrstuvwxyz" k_LETTERS))
    (n_all : mg "all" = none)
    {k_NAME_SIGNS : Tok} (c_NAME_SIGNS : mg "NAME_SIGNS" = some (.str "abcdefghijklmnopqrstuvwxyz0123456789" k_NAME_SIGNS))
    (len : ∀ vs H Q E, sp vs H Q E → vs.length = 1)
    (rd : ∀ vs H Q E, sp vs H Q E → run (t_is_name K P_is_name) (start N_is_name vs) H Q) : Keeps P w K mg b CX0 3 a d ["thing"] sp := by
  refine keepsT F.fn hcd sc_is_name len fun A o s H vs Q E hr h => ⟨t_is_name K P_is_name, ?_, rd vs H Q E h⟩
  unfold t_is_name t_is_name_r1
  exact (pss_cons (ps_if (PW.pt (pw_or (pt_not (pt_tru (pe_callB call_isi (by rfl) n_isinstance (by decide +kernel) (pa_cons (pv 0) (pa_cons (pe_bltn (v := .ty "str") (by rfl) n_str (by decide +kernel) rfl) pa_nil))))) (pw_or1 (pt_not (pt_chain op_le op_le pe_int (pe_callB call_uLen (by rfl) n_len (by decide +kernel) (pa_cons (pv 0) pa_nil)) (pe_glob rfl c_LONGEST_NAME ⟨_, rfl⟩)))))) (pss_one (ps_ret pe_bl)) pss_nil)
  (pss_one (ps_ret (pe_andT (pe_cmpR op_uIn (pe_ix ix_u (pv 0) pe_int (fun _ _ => rfl)) (pe_glob rfl c_LETTERS ⟨_, rfl⟩) rfl) (pe_one (pe_allG (own := [("sign", 1)]) hr TB (by rfl) rfl sc_is_name.nd ⟨blkOk_by (own := [("sign", 1)]) (N := N_is_name) (sc := defScope s_is_name_) (by decide +kernel), by decide +kernel, by rfl, by rfl⟩ (by rfl) n_all (pi_u (pv 0)) (fun _ _ _ _ _ _ hr => (pg_name (i := 1) sc_is_name.nd rfl (.inl rfl))) (fun _ _ _ _ _ _ _ => pts_nil) (fun _ _ _ _ _ _ hr => (pe_cmpR op_uIn (pv 1) (pe_glob rfl c_NAME_SIGNS ⟨_, rfl⟩) rfl))))))))

abbrev s_number_by_ : Stmt := topS 21
abbrev N_number_by : List Str := ["text", "most", "number", "sign"]
theorem sc_number_by : FnScope N_number_by ["text", "most"] (defScope s_number_by_) := ⟨rfl, rfl, rfl, by decide +kernel, rfl, by decide +kernel, by decide +kernel⟩
def t_number_by_r1 (K : PySem.W.Frag) (P_number_by : Addr) : TS :=
  tSeq (tAsg (tCB uIntS (tCons (tVar 0) (tNil))) (gName 2)) (tRet (tIf (tTest (tOp (rI0 fun i j => .bl (decide (i ≤ j))) (tVar 2) (tVar 1))) (tVar 2) (tC .non)))
def t_number_by_r2 (K : PySem.W.Frag) (P_number_by : Addr) : TS :=
  tSeq (tIfS (tAnd (tTest (tOp (uEq K false) (tOp (uIx K) (tVar 0) (tC (.int 0))) (tC (.str "0")))) (tTest (tOp (rI0 fun i j => .bl (decide (j < i))) (tCB (uLen K) (tCons (tVar 0) (tNil))) (tC (.int 1))))) (tRet (tC .non)) (tNext)) (t_number_by_r1 K P_number_by)
def t_number_by_r3 (K : PySem.W.Frag) (P_number_by : Addr) : TS :=
  tSeq (tIfS (tNot (tTru K (tGen P_number_by (iU K (tVar 0)) (gName 3) (tYes) (tOp (uIn K false) (tVar 3) (tC (.str "0123456789"))) [3] false))) (tRet (tC .non)) (tNext)) (t_number_by_r2 K P_number_by)
def t_number_by (K : PySem.W.Frag) (P_number_by : Addr) : TS :=
  tSeq (tIfS (tNot (tTest (tChain (rI0 fun i j => .bl (decide (i ≤ j))) (rI0 fun i j => .bl (decide (i ≤ j))) (tC (.int 1)) (tCB (uLen K) (tCons (tVar 0) (tNil))) (tCB (uLen K) (tCons (tCB (uStr) (tCons (tVar 1) (tNil))) (tNil)))))) (tRet (tC .non)) (tNext)) (t_number_by_r3 K P_number_by)
theorem dv_number_by {P : Program} {w : World} {K : PySem.W.Frag} {mg : Str → Option Value} {b : Heap} {a : Addr} {d : FuncData} {sp : Sp} (F : Fn K mg "number_by" s_number_by_ a d ["text", "most"])
    {tc_number_by P_number_by : Addr} (hcd : d.code = .ref tc_number_by) (TB : GxR.TabB b mg tc_number_by P_number_by)
    (n_len : mg "len" = none)
    (n_str : mg "str" = none)
    (n_all : mg "all" = none)
    {k_FIGURES : Tok} (c_FIGURES : mg "FIGURES" = some (.str "0123456789" k_FIGURES))
    (n_int : mg "int" = none)
    (len : ∀ vs H Q E, sp vs H Q E → vs.length = 2)
    (rd : ∀ vs H Q E, sp vs H Q E → run (t_number_by K P_number_by) (start N_number_by vs) H Q) : Keeps P w K mg b CX0 3 a d ["text", "most"] sp := by
  refine keepsT F.fn hcd sc_number_by len fun A o s H vs Q E hr h => ⟨t_number_by K P_number_by, ?_, rd vs H Q E h⟩
  unfold t_number_by t_number_by_r3 t_number_by_r2 t_number_by_r1
  exact (pss_cons (ps_if (pt_not (pt_chain op_le op_le pe_int (pe_callB call_uLen (by rfl) n_len (by decide +kernel) (pa_cons (pv 0) pa_nil)) (pe_callB call_uLen (by rfl) n_len (by decide +kernel) (pa_cons (pe_callTy call_uStr (by rfl) n_str (by decide +kernel) (pa_cons (pv 1) pa_nil)) pa_nil)))) (pss_one (ps_ret pe_non)) pss_nil)
  (pss_cons (ps_if (pt_not (pt_tru (pe_allG (own := [("sign", 3)]) hr TB (by rfl) rfl sc_number_by.nd ⟨blkOk_by (own := [("sign", 3)]) (N := N_number_by) (sc := defScope s_number_by_) (by decide +kernel), by decide +kernel, by rfl, by rfl⟩ (by rfl) n_all (pi_u (pv 0)) (fun _ _ _ _ _ _ hr => (pg_name (i := 3) sc_number_by.nd rfl (.inl rfl))) (fun _ _ _ _ _ _ _ => pts_nil) (fun _ _ _ _ _ _ hr => (pe_cmpR op_uIn (pv 3) (pe_glob rfl c_FIGURES ⟨_, rfl⟩) rfl))))) (pss_one (ps_ret pe_non)) pss_nil)
  (pss_cons (ps_if (PW.pt (pw_and (pt_cmpR (op_uEq hr.rm.units) (pe_ix ix_u (pv 0) pe_int (fun _ _ => rfl)) pe_str (nomark _)) (pw_and1 (pt_cmpR op_gt (pe_callB call_uLen (by rfl) n_len (by decide +kernel) (pa_cons (pv 0) pa_nil)) pe_int (nomark _))))) (pss_one (ps_ret pe_non)) pss_nil)
  (pss_cons (ps_set (i := 2) sc_number_by.nd rfl (.inl rfl) (pe_callTy call_uIntS (by rfl) n_int (by decide +kernel) (pa_cons (pv 0) pa_nil)))
  (pss_one (ps_ret (pe_ifExp (pt_cmpR op_le (pv 2) (pv 1) (nomark _)) (pv 2) pe_non)))))))

abbrev s__is_drive_ : Stmt := topS 29
abbrev N__is_drive : List Str := ["thing"]
theorem sc__is_drive : FnScope N__is_drive ["thing"] (defScope s__is_drive_) := ⟨rfl, rfl, rfl, by decide +kernel, rfl, by decide +kernel, by decide +kernel⟩
def t__is_drive (K : PySem.W.Frag) (s_is_within : Sp) : TS :=
  tRet (tOrT K (tOp rIsN (tVar 0) (tC .non)) (tGo s_is_within E0 (tCons (tVar 0) (tCons (tC (.int 1)) (tCons (tC (.int 60)) (tNil))))))
theorem dv__is_drive {P : Program} {w : World} {K : PySem.W.Frag} {mg : Str → Option Value} {b : Heap} {a : Addr} {d : FuncData} {sp : Sp} (F : Fn K mg "_is_drive" s__is_drive_ a d ["thing"])
    {a_is_within : Addr} {d_is_within : FuncData} {s_is_within : Sp} (F_is_within : Fn K mg "is_within" s_is_within_ a_is_within d_is_within ["thing", "least", "most"]) (k_is_within : Keeps P w K mg b CX0 3 a_is_within d_is_within ["thing", "least", "most"] s_is_within)
    {k_MOST_MINUTES : Tok} (c_MOST_MINUTES : mg "MOST_MINUTES" = some (.int 60 k_MOST_MINUTES))
    (len : ∀ vs H Q E, sp vs H Q E → vs.length = 1)
    (rd : ∀ vs H Q E, sp vs H Q E → run (t__is_drive K s_is_within) (start N__is_drive vs) H Q) : Keeps P w K mg b CX0 4 a d ["thing"] sp := by
  refine keeps0 F.fn sc__is_drive len fun cdv A o s H vs Q E hr h => ⟨t__is_drive K s_is_within, ?_, rd vs H Q E h⟩
  unfold t__is_drive 
  exact (pss_one (ps_ret (pe_orT (pe_cmpR op_isN (pv 0) pe_non (nomark _)) (pe_one (pe_go k_is_within (hr.mono (by decide)) rfl F_is_within.g F_is_within.fn.kp F_is_within.b pass0 (pa_cons (pv 0) (pa_cons pe_int (pa_cons (pe_glob rfl c_MOST_MINUTES ⟨_, rfl⟩) pa_nil))))))))

abbrev s_is_road_ : Stmt := topS 28
abbrev N_is_road : List Str := ["places", "thing", "one", "other", "there", "back"]
theorem sc_is_road : FnScope N_is_road ["places", "thing"] (defScope s_is_road_) := ⟨rfl, rfl, rfl, by decide +kernel, rfl, by decide +kernel, by decide +kernel⟩
def t_is_road_r1 (K : PySem.W.Frag) (s__is_drive : Sp) : TS :=
  tRet (tAndT K (tGo s__is_drive E0 (tCons (tVar 4) (tNil))) (tGo s__is_drive E0 (tCons (tVar 5) (tNil))))
def t_is_road_r2 (K : PySem.W.Frag) (s__is_drive : Sp) : TS :=
  tSeq (tIfS (tAnd (tTest (tOp rIsN (tVar 4) (tC .non))) (tTest (tOp rIsN (tVar 5) (tC .non)))) (tRet (tC (.bl false))) (tNext)) (t_is_road_r1 K s__is_drive)
def t_is_road_r3 (K : PySem.W.Frag) (s__is_drive : Sp) : TS :=
  tSeq (tAsg (tVar 1) (gTup K 4 (gCons (gName 2) (gCons (gName 3) (gCons (gName 4) (gCons (gName 5) (gNil))))))) (tSeq (tIfS (tOr (tTest (tOp (uIn K true) (tVar 2) (tVar 0))) (tOr (tTest (tOp (uIn K true) (tVar 3) (tVar 0))) (tTest (tOp (uEq K false) (tVar 2) (tVar 3))))) (tRet (tC (.bl false))) (tNext)) (t_is_road_r2 K s__is_drive))
def t_is_road (K : PySem.W.Frag) (s__is_drive : Sp) : TS :=
  tSeq (tIfS (tOr (tNot (tTru K (tCB (rIsi K) (tCons (tVar 1) (tCons (tC (.ty "tuple")) (tNil)))))) (tTest (tOp (uEq K true) (tCB (uLen K) (tCons (tVar 1) (tNil))) (tC (.int 4))))) (tRet (tC (.bl false))) (tNext)) (t_is_road_r3 K s__is_drive)
theorem dv_is_road {P : Program} {w : World} {K : PySem.W.Frag} {mg : Str → Option Value} {b : Heap} {a : Addr} {d : FuncData} {sp : Sp} (F : Fn K mg "is_road" s_is_road_ a d ["places", "thing"])
    (n_isinstance : mg "isinstance" = none)
    (n_tuple : mg "tuple" = none)
    (n_len : mg "len" = none)
    {a__is_drive : Addr} {d__is_drive : FuncData} {s__is_drive : Sp} (F__is_drive : Fn K mg "_is_drive" s__is_drive_ a__is_drive d__is_drive ["thing"]) (k__is_drive : Keeps P w K mg b CX0 4 a__is_drive d__is_drive ["thing"] s__is_drive)
    (len : ∀ vs H Q E, sp vs H Q E → vs.length = 2)
    (rd : ∀ vs H Q E, sp vs H Q E → run (t_is_road K s__is_drive) (start N_is_road vs) H Q) : Keeps P w K mg b CX0 5 a d ["places", "thing"] sp := by
  refine keeps0 F.fn sc_is_road len fun cdv A o s H vs Q E hr h => ⟨t_is_road K s__is_drive, ?_, rd vs H Q E h⟩
  unfold t_is_road t_is_road_r3 t_is_road_r2 t_is_road_r1
  exact (pss_cons (ps_if (PW.pt (pw_or (pt_not (pt_tru (pe_callB call_isi (by rfl) n_isinstance (by decide +kernel) (pa_cons (pv 1) (pa_cons (pe_bltn (v := .ty "tuple") (by rfl) n_tuple (by decide +kernel) rfl) pa_nil))))) (pw_or1 (pt_cmpR (op_uNe hr.rm.units) (pe_callB call_uLen (by rfl) n_len (by decide +kernel) (pa_cons (pv 1) pa_nil)) pe_int (nomark _))))) (pss_one (ps_ret pe_bl)) pss_nil)
  (pss_cons (ps_asg (pv 1) (pg_tup rfl (pgs_cons (pg_name (i := 2) sc_is_road.nd rfl (.inl rfl)) (pgs_cons (pg_name (i := 3) sc_is_road.nd rfl (.inl rfl)) (pgs_cons (pg_name (i := 4) sc_is_road.nd rfl (.inl rfl)) (pgs_cons (pg_name (i := 5) sc_is_road.nd rfl (.inl rfl)) pgs_nil))))))
  (pss_cons (ps_if (PW.pt (pw_or (pt_cmpR op_uNotIn (pv 2) (pv 0) rfl) (pw_or (pt_cmpR op_uNotIn (pv 3) (pv 0) rfl) (pw_or1 (pt_cmpR (op_uEq hr.rm.units) (pv 2) (pv 3) (nomark _)))))) (pss_one (ps_ret pe_bl)) pss_nil)
  (pss_cons (ps_if (PW.pt (pw_and (pt_cmpR op_isN (pv 4) pe_non (nomark _)) (pw_and1 (pt_cmpR op_isN (pv 5) pe_non (nomark _))))) (pss_one (ps_ret pe_bl)) pss_nil)
  (pss_one (ps_ret (pe_andT (pe_go k__is_drive (hr.mono (by decide)) rfl F__is_drive.g F__is_drive.fn.kp F__is_drive.b pass0 (pa_cons (pv 4) pa_nil)) (pe_one (pe_go k__is_drive (hr.mono (by decide)) rfl F__is_drive.g F__is_drive.fn.kp F__is_drive.b pass0 (pa_cons (pv 5) pa_nil))))))))))

abbrev s__taken_stand_ : Stmt := topS 36
abbrev N__taken_stand : List Str := ["places", "stands", "word"]
theorem sc__taken_stand : FnScope N__taken_stand ["places", "stands", "word"] (defScope s__taken_stand_) := ⟨rfl, rfl, rfl, by decide +kernel, rfl, by decide +kernel, by decide +kernel⟩
def t__taken_stand_r1 (K : PySem.W.Frag) : TS :=
  tSeq (tDrop (tBM K "list" uAppend (tVar 1) (tCons (tVar 2) (tNil)))) (tRet (tC (.bl true)))
def t__taken_stand (K : PySem.W.Frag) : TS :=
  tSeq (tIfS (tOr (tTest (tOp (uEq K false) (tCB (uLen K) (tCons (tVar 1) (tNil))) (tC (.int 5)))) (tOr (tTest (tOp (uIn K true) (tVar 2) (tVar 0))) (tTest (tOp (uIn K false) (tVar 2) (tVar 1))))) (tRet (tC (.bl false))) (tNext)) (t__taken_stand_r1 K)
theorem dv__taken_stand {P : Program} {w : World} {K : PySem.W.Frag} {mg : Str → Option Value} {b : Heap} {a : Addr} {d : FuncData} {sp : Sp} (F : Fn K mg "_taken_stand" s__taken_stand_ a d ["places", "stands", "word"])
    (n_len : mg "len" = none)
    {k_MOST_STANDS : Tok} (c_MOST_STANDS : mg "MOST_STANDS" = some (.int 5 k_MOST_STANDS))
    (len : ∀ vs H Q E, sp vs H Q E → vs.length = 3)
    (rd : ∀ vs H Q E, sp vs H Q E → run (t__taken_stand K) (start N__taken_stand vs) H Q) : Keeps P w K mg b CX0 2 a d ["places", "stands", "word"] sp := by
  refine keeps0 F.fn sc__taken_stand len fun cdv A o s H vs Q E hr h => ⟨t__taken_stand K, ?_, rd vs H Q E h⟩
  unfold t__taken_stand t__taken_stand_r1
  exact (pss_cons (ps_if (PW.pt (pw_or (pt_cmpR (op_uEq hr.rm.units) (pe_callB call_uLen (by rfl) n_len (by decide +kernel) (pa_cons (pv 1) pa_nil)) (pe_glob rfl c_MOST_STANDS ⟨_, rfl⟩) (nomark _)) (pw_or (pt_cmpR op_uNotIn (pv 2) (pv 0) rfl) (pw_or1 (pt_cmpR op_uIn (pv 2) (pv 1) rfl))))) (pss_one (ps_ret pe_bl)) pss_nil)
  (pss_cons (ps_expr (pe_bm PySem.F.plainAttrs_list PySem.F.slot_list_append PySem.F.type_list_append mt_uAppend (pv 1) (pa_cons (pv 2) pa_nil)))
  (pss_one (ps_ret pe_bl))))

abbrev s__taken_reach_ : Stmt := topS 37
abbrev N__taken_reach : List Str := ["reaches", "word", "number"]
theorem sc__taken_reach : FnScope N__taken_reach ["reaches", "word"] (defScope s__taken_reach_) := ⟨rfl, rfl, rfl, by decide +kernel, rfl, by decide +kernel, by decide +kernel⟩
def t__taken_reach_r1 (K : PySem.W.Frag) (s_number_by : Sp) : TS :=
  tSeq (tDrop (tBM K "list" uAppend (tVar 0) (tCons (tVar 2) (tNil)))) (tRet (tC (.bl true)))
def t__taken_reach (K : PySem.W.Frag) (s_number_by : Sp) : TS :=
  tSeq (tAsg (tGo s_number_by E0 (tCons (tVar 1) (tCons (tC (.int 120)) (tNil)))) (gName 2)) (tSeq (tIfS (tTest (tOp rIsN (tVar 2) (tC .non))) (tRet (tC (.bl false))) (tNext)) (t__taken_reach_r1 K s_number_by))
theorem dv__taken_reach {P : Program} {w : World} {K : PySem.W.Frag} {mg : Str → Option Value} {b : Heap} {a : Addr} {d : FuncData} {sp : Sp} (F : Fn K mg "_taken_reach" s__taken_reach_ a d ["reaches", "word"])
    {a_number_by : Addr} {d_number_by : FuncData} {s_number_by : Sp} (F_number_by : Fn K mg "number_by" s_number_by_ a_number_by d_number_by ["text", "most"]) (k_number_by : Keeps P w K mg b CX0 3 a_number_by d_number_by ["text", "most"] s_number_by)
    {k_MOST_REACH : Tok} (c_MOST_REACH : mg "MOST_REACH" = some (.int 120 k_MOST_REACH))
    (len : ∀ vs H Q E, sp vs H Q E → vs.length = 2)
    (rd : ∀ vs H Q E, sp vs H Q E → run (t__taken_reach K s_number_by) (start N__taken_reach vs) H Q) : Keeps P w K mg b CX0 4 a d ["reaches", "word"] sp := by
  refine keeps0 F.fn sc__taken_reach len fun cdv A o s H vs Q E hr h => ⟨t__taken_reach K s_number_by, ?_, rd vs H Q E h⟩
  unfold t__taken_reach t__taken_reach_r1
  exact (pss_cons (ps_set (i := 2) sc__taken_reach.nd rfl (.inl rfl) (pe_go k_number_by (hr.mono (by decide)) rfl F_number_by.g F_number_by.fn.kp F_number_by.b pass0 (pa_cons (pv 1) (pa_cons (pe_glob rfl c_MOST_REACH ⟨_, rfl⟩) pa_nil))))
  (pss_cons (ps_if (pt_cmpR op_isN (pv 2) pe_non (nomark _)) (pss_one (ps_ret pe_bl)) pss_nil)
  (pss_cons (ps_expr (pe_bm PySem.F.plainAttrs_list PySem.F.slot_list_append PySem.F.type_list_append mt_uAppend (pv 0) (pa_cons (pv 2) pa_nil)))
  (pss_one (ps_ret pe_bl)))))

abbrev s__taken_place_ : Stmt := topS 34
abbrev N__taken_place : List Str := ["places", "word"]
theorem sc__taken_place : FnScope N__taken_place ["places", "word"] (defScope s__taken_place_) := ⟨rfl, rfl, rfl, by decide +kernel, rfl, by decide +kernel, by decide +kernel⟩
def t__taken_place_r1 (K : PySem.W.Frag) (s_is_name : Sp) : TS :=
  tSeq (tDrop (tBM K "list" uAppend (tVar 0) (tCons (tVar 1) (tNil)))) (tRet (tC (.bl true)))
def t__taken_place (K : PySem.W.Frag) (s_is_name : Sp) : TS :=
  tSeq (tIfS (tOr (tTest (tOp (uEq K false) (tCB (uLen K) (tCons (tVar 0) (tNil))) (tC (.int 10)))) (tOr (tNot (tTru K (tGo s_is_name E0 (tCons (tVar 1) (tNil))))) (tTest (tOp (uIn K false) (tVar 1) (tVar 0))))) (tRet (tC (.bl false))) (tNext)) (t__taken_place_r1 K s_is_name)
theorem dv__taken_place {P : Program} {w : World} {K : PySem.W.Frag} {mg : Str → Option Value} {b : Heap} {a : Addr} {d : FuncData} {sp : Sp} (F : Fn K mg "_taken_place" s__taken_place_ a d ["places", "word"])
    (n_len : mg "len" = none)
    {k_MOST_PLACES : Tok} (c_MOST_PLACES : mg "MOST_PLACES" = some (.int 10 k_MOST_PLACES))
    {a_is_name : Addr} {d_is_name : FuncData} {s_is_name : Sp} (F_is_name : Fn K mg "is_name" s_is_name_ a_is_name d_is_name ["thing"]) (k_is_name : Keeps P w K mg b CX0 3 a_is_name d_is_name ["thing"] s_is_name)
    (len : ∀ vs H Q E, sp vs H Q E → vs.length = 2)
    (rd : ∀ vs H Q E, sp vs H Q E → run (t__taken_place K s_is_name) (start N__taken_place vs) H Q) : Keeps P w K mg b CX0 4 a d ["places", "word"] sp := by
  refine keeps0 F.fn sc__taken_place len fun cdv A o s H vs Q E hr h => ⟨t__taken_place K s_is_name, ?_, rd vs H Q E h⟩
  unfold t__taken_place t__taken_place_r1
  exact (pss_cons (ps_if (PW.pt (pw_or (pt_cmpR (op_uEq hr.rm.units) (pe_callB call_uLen (by rfl) n_len (by decide +kernel) (pa_cons (pv 0) pa_nil)) (pe_glob rfl c_MOST_PLACES ⟨_, rfl⟩) (nomark _)) (pw_or (pt_not (pt_tru (pe_go k_is_name (hr.mono (by decide)) rfl F_is_name.g F_is_name.fn.kp F_is_name.b pass0 (pa_cons (pv 1) pa_nil)))) (pw_or1 (pt_cmpR op_uIn (pv 1) (pv 0) rfl))))) (pss_one (ps_ret pe_bl)) pss_nil)
  (pss_cons (ps_expr (pe_bm PySem.F.plainAttrs_list PySem.F.slot_list_append PySem.F.type_list_append mt_uAppend (pv 0) (pa_cons (pv 1) pa_nil)))
  (pss_one (ps_ret pe_bl))))

abbrev s__drive_by_ : Stmt := topS 38
abbrev N__drive_by : List Str := ["word", "number"]
theorem sc__drive_by : FnScope N__drive_by ["word"] (defScope s__drive_by_) := ⟨rfl, rfl, rfl, by decide +kernel, rfl, by decide +kernel, by decide +kernel⟩
def t__drive_by_r1 (K : PySem.W.Frag) (s_number_by : Sp) : TS :=
  tSeq (tAsg (tGo s_number_by E0 (tCons (tVar 0) (tCons (tC (.int 60)) (tNil)))) (gName 1)) (tRet (tIf (tTest (tOp rIsN (tVar 1) (tC .non))) (tC (.int 0)) (tVar 1)))
def t__drive_by (K : PySem.W.Frag) (s_number_by : Sp) : TS :=
  tSeq (tIfS (tTest (tOp (uEq K false) (tVar 0) (tC (.str "-")))) (tRet (tC .non)) (tNext)) (t__drive_by_r1 K s_number_by)
theorem dv__drive_by {P : Program} {w : World} {K : PySem.W.Frag} {mg : Str → Option Value} {b : Heap} {a : Addr} {d : FuncData} {sp : Sp} (F : Fn K mg "_drive_by" s__drive_by_ a d ["word"])
    {k_NONE_TEXT : Tok} (c_NONE_TEXT : mg "NONE_TEXT" = some (.str "-" k_NONE_TEXT))
    {a_number_by : Addr} {d_number_by : FuncData} {s_number_by : Sp} (F_number_by : Fn K mg "number_by" s_number_by_ a_number_by d_number_by ["text", "most"]) (k_number_by : Keeps P w K mg b CX0 3 a_number_by d_number_by ["text", "most"] s_number_by)
    {k_MOST_MINUTES : Tok} (c_MOST_MINUTES : mg "MOST_MINUTES" = some (.int 60 k_MOST_MINUTES))
    (len : ∀ vs H Q E, sp vs H Q E → vs.length = 1)
    (rd : ∀ vs H Q E, sp vs H Q E → run (t__drive_by K s_number_by) (start N__drive_by vs) H Q) : Keeps P w K mg b CX0 4 a d ["word"] sp := by
  refine keeps0 F.fn sc__drive_by len fun cdv A o s H vs Q E hr h => ⟨t__drive_by K s_number_by, ?_, rd vs H Q E h⟩
  unfold t__drive_by t__drive_by_r1
  exact (pss_cons (ps_if (pt_cmpR (op_uEq hr.rm.units) (pv 0) (pe_glob rfl c_NONE_TEXT ⟨_, rfl⟩) (nomark _)) (pss_one (ps_ret pe_non)) pss_nil)
  (pss_cons (ps_set (i := 1) sc__drive_by.nd rfl (.inl rfl) (pe_go k_number_by (hr.mono (by decide)) rfl F_number_by.g F_number_by.fn.kp F_number_by.b pass0 (pa_cons (pv 0) (pa_cons (pe_glob rfl c_MOST_MINUTES ⟨_, rfl⟩) pa_nil))))
  (pss_one (ps_ret (pe_ifExp (pt_cmpR op_isN (pv 1) pe_non (nomark _)) pe_int (pv 1))))))

abbrev s__taken_road_ : Stmt := topS 35
abbrev N__taken_road : List Str := ["places", "roads", "words", "_", "one", "other", "there", "back", "road"]
theorem sc__taken_road : FnScope N__taken_road ["places", "roads", "words"] (defScope s__taken_road_) := ⟨rfl, rfl, rfl, by decide +kernel, rfl, by decide +kernel, by decide +kernel⟩
def t__taken_road_r1 (K : PySem.W.Frag) (s__drive_by : Sp) (s_is_road : Sp) : TS :=
  tSeq (tDrop (tBM K "list" uAppend (tVar 1) (tCons (tVar 8) (tNil)))) (tRet (tC (.bl true)))
def t__taken_road_r2 (K : PySem.W.Frag) (s__drive_by : Sp) (s_is_road : Sp) : TS :=
  tSeq (tAsg (tVar 2) (gUnl K 5 (gCons (gName 3) (gCons (gName 4) (gCons (gName 5) (gCons (gName 6) (gCons (gName 7) (gNil)))))))) (tSeq (tAsg (tTupU (tCons (tVar 4) (tCons (tVar 5) (tCons (tGo s__drive_by E0 (tCons (tVar 6) (tNil))) (tCons (tGo s__drive_by E0 (tCons (tVar 7) (tNil))) (tNil)))))) (gName 8)) (tSeq (tIfS (tNot (tTru K (tGo s_is_road E0 (tCons (tVar 0) (tCons (tVar 8) (tNil)))))) (tRet (tC (.bl false))) (tNext)) (t__taken_road_r1 K s__drive_by s_is_road)))
def t__taken_road (K : PySem.W.Frag) (s__drive_by : Sp) (s_is_road : Sp) : TS :=
  tSeq (tIfS (tTest (tOp (uEq K false) (tCB (uLen K) (tCons (tVar 1) (tNil))) (tC (.int 18)))) (tRet (tC (.bl false))) (tNext)) (t__taken_road_r2 K s__drive_by s_is_road)
theorem dv__taken_road {P : Program} {w : World} {K : PySem.W.Frag} {mg : Str → Option Value} {b : Heap} {a : Addr} {d : FuncData} {sp : Sp} (F : Fn K mg "_taken_road" s__taken_road_ a d ["places", "roads", "words"])
    (n_len : mg "len" = none)
    {k_MOST_ROADS : Tok} (c_MOST_ROADS : mg "MOST_ROADS" = some (.int 18 k_MOST_ROADS))
    {a__drive_by : Addr} {d__drive_by : FuncData} {s__drive_by : Sp} (F__drive_by : Fn K mg "_drive_by" s__drive_by_ a__drive_by d__drive_by ["word"]) (k__drive_by : Keeps P w K mg b CX0 4 a__drive_by d__drive_by ["word"] s__drive_by)
    {a_is_road : Addr} {d_is_road : FuncData} {s_is_road : Sp} (F_is_road : Fn K mg "is_road" s_is_road_ a_is_road d_is_road ["places", "thing"]) (k_is_road : Keeps P w K mg b CX0 5 a_is_road d_is_road ["places", "thing"] s_is_road)
    (len : ∀ vs H Q E, sp vs H Q E → vs.length = 3)
    (rd : ∀ vs H Q E, sp vs H Q E → run (t__taken_road K s__drive_by s_is_road) (start N__taken_road vs) H Q) : Keeps P w K mg b CX0 6 a d ["places", "roads", "words"] sp := by
  refine keeps0 F.fn sc__taken_road len fun cdv A o s H vs Q E hr h => ⟨t__taken_road K s__drive_by s_is_road, ?_, rd vs H Q E h⟩
  unfold t__taken_road t__taken_road_r2 t__taken_road_r1
  exact (pss_cons (ps_if (pt_cmpR (op_uEq hr.rm.units) (pe_callB call_uLen (by rfl) n_len (by decide +kernel) (pa_cons (pv 1) pa_nil)) (pe_glob rfl c_MOST_ROADS ⟨_, rfl⟩) (nomark _)) (pss_one (ps_ret pe_bl)) pss_nil)
  (pss_cons (ps_asg (pv 2) (pg_unl rfl (pgs_cons (pg_name (i := 3) sc__taken_road.nd rfl (.inl rfl)) (pgs_cons (pg_name (i := 4) sc__taken_road.nd rfl (.inl rfl)) (pgs_cons (pg_name (i := 5) sc__taken_road.nd rfl (.inl rfl)) (pgs_cons (pg_name (i := 6) sc__taken_road.nd rfl (.inl rfl)) (pgs_cons (pg_name (i := 7) sc__taken_road.nd rfl (.inl rfl)) pgs_nil)))))))
  (pss_cons (ps_set (i := 8) sc__taken_road.nd rfl (.inl rfl) (pe_tupU (pa_cons (pv 4) (pa_cons (pv 5) (pa_cons (pe_go k__drive_by (hr.mono (by decide)) rfl F__drive_by.g F__drive_by.fn.kp F__drive_by.b pass0 (pa_cons (pv 6) pa_nil)) (pa_cons (pe_go k__drive_by (hr.mono (by decide)) rfl F__drive_by.g F__drive_by.fn.kp F__drive_by.b pass0 (pa_cons (pv 7) pa_nil)) pa_nil))))))
  (pss_cons (ps_if (pt_not (pt_tru (pe_go k_is_road (hr.mono (by decide)) rfl F_is_road.g F_is_road.fn.kp F_is_road.b pass0 (pa_cons (pv 0) (pa_cons (pv 8) pa_nil))))) (pss_one (ps_ret pe_bl)) pss_nil)
  (pss_cons (ps_expr (pe_bm PySem.F.plainAttrs_list PySem.F.slot_list_append PySem.F.type_list_append mt_uAppend (pv 1) (pa_cons (pv 8) pa_nil)))
  (pss_one (ps_ret pe_bl)))))))

abbrev s__taken_ : Stmt := topS 33
abbrev N__taken : List Str := ["places", "roads", "stands", "reaches", "words"]
theorem sc__taken : FnScope N__taken ["places", "roads", "stands", "reaches", "words"] (defScope s__taken_) := ⟨rfl, rfl, rfl, by decide +kernel, rfl, by decide +kernel, by decide +kernel⟩
def t__taken_r1 (K : PySem.W.Frag) (s__taken_place : Sp) (s__taken_road : Sp) (s__taken_stand : Sp) (s__taken_reach : Sp) : TS :=
  tRet (tC (.bl false))
def t__taken_r2 (K : PySem.W.Frag) (s__taken_place : Sp) (s__taken_road : Sp) (s__taken_stand : Sp) (s__taken_reach : Sp) : TS :=
  tSeq (tIfS (tAnd (tTest (tOp (uEq K false) (tOp (uIx K) (tVar 4) (tC (.int 0))) (tC (.str "reach")))) (tAnd (tTest (tOp (uEq K false) (tCB (uLen K) (tCons (tVar 4) (tNil))) (tC (.int 2)))) (tTru K (tVar 2)))) (tRet (tGo s__taken_reach E0 (tCons (tVar 3) (tCons (tOp (uIx K) (tVar 4) (tC (.int 1))) (tNil))))) (tNext)) (t__taken_r1 K s__taken_place s__taken_road s__taken_stand s__taken_reach)
def t__taken_r3 (K : PySem.W.Frag) (s__taken_place : Sp) (s__taken_road : Sp) (s__taken_stand : Sp) (s__taken_reach : Sp) : TS :=
  tSeq (tIfS (tAnd (tTest (tOp (uEq K false) (tOp (uIx K) (tVar 4) (tC (.int 0))) (tC (.str "stand")))) (tTest (tOp (uEq K false) (tCB (uLen K) (tCons (tVar 4) (tNil))) (tC (.int 2))))) (tRet (tGo s__taken_stand E0 (tCons (tVar 0) (tCons (tVar 2) (tCons (tOp (uIx K) (tVar 4) (tC (.int 1))) (tNil)))))) (tNext)) (t__taken_r2 K s__taken_place s__taken_road s__taken_stand s__taken_reach)
def t__taken_r4 (K : PySem.W.Frag) (s__taken_place : Sp) (s__taken_road : Sp) (s__taken_stand : Sp) (s__taken_reach : Sp) : TS :=
  tSeq (tIfS (tAnd (tTest (tOp (uEq K false) (tOp (uIx K) (tVar 4) (tC (.int 0))) (tC (.str "road")))) (tTest (tOp (uEq K false) (tCB (uLen K) (tCons (tVar 4) (tNil))) (tC (.int 5))))) (tRet (tAndT K (tNotT K (tVar 2)) (tGo s__taken_road E0 (tCons (tVar 0) (tCons (tVar 1) (tCons (tVar 4) (tNil))))))) (tNext)) (t__taken_r3 K s__taken_place s__taken_road s__taken_stand s__taken_reach)
def t__taken (K : PySem.W.Frag) (s__taken_place : Sp) (s__taken_road : Sp) (s__taken_stand : Sp) (s__taken_reach : Sp) : TS :=
  tSeq (tIfS (tAnd (tTest (tOp (uEq K false) (tOp (uIx K) (tVar 4) (tC (.int 0))) (tC (.str "place")))) (tTest (tOp (uEq K false) (tCB (uLen K) (tCons (tVar 4) (tNil))) (tC (.int 2))))) (tRet (tAndT K (tNotT K (tVar 1)) (tAndT K (tNotT K (tVar 2)) (tGo s__taken_place E0 (tCons (tVar 0) (tCons (tOp (uIx K) (tVar 4) (tC (.int 1))) (tNil))))))) (tNext)) (t__taken_r4 K s__taken_place s__taken_road s__taken_stand s__taken_reach)
theorem dv__taken {P : Program} {w : World} {K : PySem.W.Frag} {mg : Str → Option Value} {b : Heap} {a : Addr} {d : FuncData} {sp : Sp} (F : Fn K mg "_taken" s__taken_ a d ["places", "roads", "stands", "reaches", "words"])
    (n_len : mg "len" = none)
    {a__taken_place : Addr} {d__taken_place : FuncData} {s__taken_place : Sp} (F__taken_place : Fn K mg "_taken_place" s__taken_place_ a__taken_place d__taken_place ["places", "word"]) (k__taken_place : Keeps P w K mg b CX0 4 a__taken_place d__taken_place ["places", "word"] s__taken_place)
    {a__taken_road : Addr} {d__taken_road : FuncData} {s__taken_road : Sp} (F__taken_road : Fn K mg "_taken_road" s__taken_road_ a__taken_road d__taken_road ["places", "roads", "words"]) (k__taken_road : Keeps P w K mg b CX0 6 a__taken_road d__taken_road ["places", "roads", "words"] s__taken_road)
    {a__taken_stand : Addr} {d__taken_stand : FuncData} {s__taken_stand : Sp} (F__taken_stand : Fn K mg "_taken_stand" s__taken_stand_ a__taken_stand d__taken_stand ["places", "stands", "word"]) (k__taken_stand : Keeps P w K mg b CX0 2 a__taken_stand d__taken_stand ["places", "stands", "word"] s__taken_stand)
    {a__taken_reach : Addr} {d__taken_reach : FuncData} {s__taken_reach : Sp} (F__taken_reach : Fn K mg "_taken_reach" s__taken_reach_ a__taken_reach d__taken_reach ["reaches", "word"]) (k__taken_reach : Keeps P w K mg b CX0 4 a__taken_reach d__taken_reach ["reaches", "word"] s__taken_reach)
    (len : ∀ vs H Q E, sp vs H Q E → vs.length = 5)
    (rd : ∀ vs H Q E, sp vs H Q E → run (t__taken K s__taken_place s__taken_road s__taken_stand s__taken_reach) (start N__taken vs) H Q) : Keeps P w K mg b CX0 7 a d ["places", "roads", "stands", "reaches", "words"] sp := by
  refine keeps0 F.fn sc__taken len fun cdv A o s H vs Q E hr h => ⟨t__taken K s__taken_place s__taken_road s__taken_stand s__taken_reach, ?_, rd vs H Q E h⟩
  unfold t__taken t__taken_r4 t__taken_r3 t__taken_r2 t__taken_r1
  exact (pss_cons (ps_if (PW.pt (pw_and (pt_cmpR (op_uEq hr.rm.units) (pe_ix ix_u (pv 4) pe_int (fun _ _ => rfl)) pe_str (nomark _)) (pw_and1 (pt_cmpR (op_uEq hr.rm.units) (pe_callB call_uLen (by rfl) n_len (by decide +kernel) (pa_cons (pv 4) pa_nil)) pe_int (nomark _))))) (pss_one (ps_ret (pe_andT (pe_notT (pv 1)) (pe_andT (pe_notT (pv 2)) (pe_one (pe_go k__taken_place (hr.mono (by decide)) rfl F__taken_place.g F__taken_place.fn.kp F__taken_place.b pass0 (pa_cons (pv 0) (pa_cons (pe_ix ix_u (pv 4) pe_int (fun _ _ => rfl)) pa_nil)))))))) pss_nil)
  (pss_cons (ps_if (PW.pt (pw_and (pt_cmpR (op_uEq hr.rm.units) (pe_ix ix_u (pv 4) pe_int (fun _ _ => rfl)) pe_str (nomark _)) (pw_and1 (pt_cmpR (op_uEq hr.rm.units) (pe_callB call_uLen (by rfl) n_len (by decide +kernel) (pa_cons (pv 4) pa_nil)) pe_int (nomark _))))) (pss_one (ps_ret (pe_andT (pe_notT (pv 2)) (pe_one (pe_go k__taken_road (hr.mono (by decide)) rfl F__taken_road.g F__taken_road.fn.kp F__taken_road.b pass0 (pa_cons (pv 0) (pa_cons (pv 1) (pa_cons (pv 4) pa_nil)))))))) pss_nil)
  (pss_cons (ps_if (PW.pt (pw_and (pt_cmpR (op_uEq hr.rm.units) (pe_ix ix_u (pv 4) pe_int (fun _ _ => rfl)) pe_str (nomark _)) (pw_and1 (pt_cmpR (op_uEq hr.rm.units) (pe_callB call_uLen (by rfl) n_len (by decide +kernel) (pa_cons (pv 4) pa_nil)) pe_int (nomark _))))) (pss_one (ps_ret (pe_go k__taken_stand (hr.mono (by decide)) rfl F__taken_stand.g F__taken_stand.fn.kp F__taken_stand.b pass0 (pa_cons (pv 0) (pa_cons (pv 2) (pa_cons (pe_ix ix_u (pv 4) pe_int (fun _ _ => rfl)) pa_nil)))))) pss_nil)
  (pss_cons (ps_if (PW.pt (pw_and (pt_cmpR (op_uEq hr.rm.units) (pe_ix ix_u (pv 4) pe_int (fun _ _ => rfl)) pe_str (nomark _)) (pw_and (pt_cmpR (op_uEq hr.rm.units) (pe_callB call_uLen (by rfl) n_len (by decide +kernel) (pa_cons (pv 4) pa_nil)) pe_int (nomark _)) (pw_and1 (pt_tru (pv 2)))))) (pss_one (ps_ret (pe_go k__taken_reach (hr.mono (by decide)) rfl F__taken_reach.g F__taken_reach.fn.kp F__taken_reach.b pass0 (pa_cons (pv 3) (pa_cons (pe_ix ix_u (pv 4) pe_int (fun _ _ => rfl)) pa_nil))))) pss_nil)
  (pss_one (ps_ret pe_bl))))))

abbrev s_town_by_ : Stmt := topS 32
abbrev N_town_by : List Str := ["text", "rows", "places", "roads", "stands", "reaches", "at", "row"]
theorem sc_town_by : FnScope N_town_by ["text"] (defScope s_town_by_) := ⟨rfl, rfl, rfl, by decide +kernel, rfl, by decide +kernel, by decide +kernel⟩
def t_town_by_b1 (K : PySem.W.Frag) (s__taken : Sp) (c_NoText : Addr) (E : XK) : TS :=
  tIfS (tOr (tTru K (tVar 5)) (tNot (tTru K (tGo s__taken E0 (tCons (tVar 2) (tCons (tVar 3) (tCons (tVar 4) (tCons (tVar 5) (tCons (tM1 uSplit (tVar 7) (tC (.str " "))) (tNil)))))))))) (tRaiseE E (tMkO c_NoText (spIni K c_NoText ["row"]) [] (tCons (tVar 6) (tNil)))) (tNext)
def t_town_by_r1 (K : PySem.W.Frag) (s__taken : Sp) (c_NoText : Addr) (E : XK) : TS :=
  tRet (tTupU (tCons (tCB (uTuple K) (tCons (tVar 2) (tNil))) (tCons (tCB (uTuple K) (tCons (tVar 3) (tNil))) (tCons (tCB (uTuple K) (tCons (tVar 4) (tNil))) (tCons (tOp (uIx K) (tVar 5) (tC (.int 0))) (tNil))))))
def t_town_by_r2 (K : PySem.W.Frag) (s__taken : Sp) (c_NoText : Addr) (E : XK) : TS :=
  tSeq (tIfS (tNot (tTru K (tVar 5))) (tRaiseE E (tMkO c_NoText (spIni K c_NoText ["row"]) [] (tCons (tCB (uLen K) (tCons (tVar 1) (tNil))) (tNil)))) (tNext)) (t_town_by_r1 K s__taken c_NoText E)
def t_town_by_r3 (K : PySem.W.Frag) (s__taken : Sp) (c_NoText : Addr) (E : XK) : TS :=
  tSeq (tAsg (tM1 uSplit (tVar 0) (tC (.str "\n"))) (gName 1)) (tSeq (tAsg (tLstU (tNil)) (gName 2)) (tSeq (tAsg (tLstU (tNil)) (gName 3)) (tSeq (tAsg (tLstU (tNil)) (gName 4)) (tSeq (tAsg (tLstU (tNil)) (gName 5)) (tSeq (tFor (iEnum K (tCons (tVar 1) (tNil))) (gTup K 2 (gCons (gName 6) (gCons (gName 7) (gNil)))) (t_town_by_b1 K s__taken c_NoText E)) (t_town_by_r2 K s__taken c_NoText E))))))
def t_town_by (K : PySem.W.Frag) (s__taken : Sp) (c_NoText : Addr) (E : XK) : TS :=
  tSeq (tIfS (tNot (tTru K (tCB (rIsi K) (tCons (tVar 0) (tCons (tC (.ty "str")) (tNil)))))) (tRaiseE E (tMkO c_NoText (spIni K c_NoText ["row"]) [] (tCons (tC (.int 0)) (tNil)))) (tNext)) (t_town_by_r3 K s__taken c_NoText E)
theorem dv_town_by {P : Program} {w : World} {K : PySem.W.Frag} {mg : Str → Option Value} {b : Heap} {a : Addr} {d : FuncData} {sp : Sp} (F : Fn K mg "town_by" s_town_by_ a d ["text"])
    {c_NoText : Addr}
    (g_NoText : mg "NoText" = some (.ref c_NoText))
    (n_isinstance : mg "isinstance" = none)
    (n_str : mg "str" = none)
    {ai_NoText : Addr} {di_NoText : FuncData} (T_NoText : OexC K c_NoText) (iC_NoText : PySem.W.findIn K (.ref c_NoText) "__init__" = some (some (.ref ai_NoText))) (tI_NoText : PySem.W.typeIn K (.ref ai_NoText) = some (.type "function")) (bi_NoText : Binds K di_NoText ["self", "row"] []) (Fi_NoText : FnOk P w K mg b CX0 2 ai_NoText di_NoText ["self", "row"] (spIni K c_NoText ["row"]))
    (n_enumerate : mg "enumerate" = none)
    {a__taken : Addr} {d__taken : FuncData} {s__taken : Sp} (F__taken : Fn K mg "_taken" s__taken_ a__taken d__taken ["places", "roads", "stands", "reaches", "words"]) (k__taken : Keeps P w K mg b CX0 7 a__taken d__taken ["places", "roads", "stands", "reaches", "words"] s__taken)
    (n_len : mg "len" = none)
    (n_tuple : mg "tuple" = none)
    (len : ∀ vs H Q E, sp vs H Q E → vs.length = 1)
    (rd : ∀ vs H Q E, sp vs H Q E → run (t_town_by K s__taken c_NoText E) (start N_town_by vs) H Q) : Keeps P w K mg b (L2.CX P w) 8 a d ["text"] sp := by
  refine keepsX F.fn sc_town_by len fun cdv A o s H vs Q E hr h => ⟨t_town_by K s__taken c_NoText E, ?_, rd vs H Q E h⟩
  unfold t_town_by t_town_by_r3 t_town_by_r2 t_town_by_r1 t_town_by_b1
  exact (pss_cons (ps_if (pt_not (pt_tru (pe_callB call_isi (by rfl) n_isinstance (by decide +kernel) (pa_cons (pv 0) (pa_cons (pe_bltn (v := .ty "str") (by rfl) n_str (by decide +kernel) rfl) pa_nil))))) (pss_one (ps_raiseE rfl (takes_of rfl rfl rfl rfl) (pmk_oex T_NoText iC_NoText tI_NoText Fi_NoText (hr.rm.mono (by decide)) bi_NoText .nil pass0 (by rfl) g_NoText (pa_cons pe_int pa_nil)))) pss_nil)
  (pss_cons (ps_set (i := 1) sc_town_by.nd rfl (.inl rfl) (pe_uSplit (pv 0) pe_str))
  (pss_cons (ps_set (i := 2) sc_town_by.nd rfl (.inl rfl) (pe_lstU pa_nil))
  (pss_cons (ps_set (i := 3) sc_town_by.nd rfl (.inl rfl) (pe_lstU pa_nil))
  (pss_cons (ps_set (i := 4) sc_town_by.nd rfl (.inl rfl) (pe_lstU pa_nil))
  (pss_cons (ps_set (i := 5) sc_town_by.nd rfl (.inl rfl) (pe_lstU pa_nil))
  (pss_cons (ps_for (passes_of rfl) rfl (pi_enum (by rfl) n_enumerate (pa_cons (pv 1) pa_nil)) (pg_tup rfl (pgs_cons (pg_name (i := 6) sc_town_by.nd rfl (.inl rfl)) (pgs_cons (pg_name (i := 7) sc_town_by.nd rfl (.inl rfl)) pgs_nil))) (pss_one (ps_if (PW.pt (pw_or (pt_tru (pv 5)) (pw_or1 (pt_not (pt_tru (pe_go k__taken (hr.mono (by decide)) rfl F__taken.g F__taken.fn.kp F__taken.b pass0 (pa_cons (pv 2) (pa_cons (pv 3) (pa_cons (pv 4) (pa_cons (pv 5) (pa_cons (pe_uSplit (pv 7) pe_str) pa_nil))))))))))) (pss_one (ps_raiseE rfl (takes_of rfl rfl rfl rfl) (pmk_oex T_NoText iC_NoText tI_NoText Fi_NoText (hr.rm.mono (by decide)) bi_NoText .nil pass0 (by rfl) g_NoText (pa_cons (pv 6) pa_nil)))) pss_nil)))
  (pss_cons (ps_if (pt_not (pt_tru (pv 5))) (pss_one (ps_raiseE rfl (takes_of rfl rfl rfl rfl) (pmk_oex T_NoText iC_NoText tI_NoText Fi_NoText (hr.rm.mono (by decide)) bi_NoText .nil pass0 (by rfl) g_NoText (pa_cons (pe_callB call_uLen (by rfl) n_len (by decide +kernel) (pa_cons (pv 1) pa_nil)) pa_nil)))) pss_nil)
  (pss_one (ps_ret (pe_tupU (pa_cons (pe_callTy call_uTuple (by rfl) n_tuple (by decide +kernel) (pa_cons (pv 2) pa_nil)) (pa_cons (pe_callTy call_uTuple (by rfl) n_tuple (by decide +kernel) (pa_cons (pv 3) pa_nil)) (pa_cons (pe_callTy call_uTuple (by rfl) n_tuple (by decide +kernel) (pa_cons (pv 4) pa_nil)) (pa_cons (pe_ix ix_u (pv 5) pe_int (fun _ _ => rfl)) pa_nil)))))))))))))))

abbrev s__law_pen_ : Stmt := topS 40
abbrev N__law_pen : List Str := ["script", "k", "cell", "digits"]
theorem sc__law_pen : FnScope N__law_pen ["script", "k"] (defScope s__law_pen_) := ⟨rfl, rfl, rfl, by decide +kernel, rfl, by decide +kernel, by decide +kernel⟩
def t__law_pen_r1 (K : PySem.W.Frag) : TS :=
  tRet (tLstU (tCons (tVar 3) (tCons (tOp (rI (fun _ j => 0 < j) fun i j => .int (i % j)) (tVar 2) (tC (.int 2147483629))) (tCons (tC (.int 0)) (tNil)))))
def t__law_pen_r2 (K : PySem.W.Frag) : TS :=
  tSeq (tAsg (tC (.int 0)) (gName 3)) (tSeq (tIfS (tTest (tOp (rI0 fun i j => .bl (decide (j ≤ i))) (tCB (uAbs) (tCons (tVar 2) (tNil))) (tOp (rI CPow fun i j => .int (i ^ j.toNat)) (tC (.int 10)) (tC (.int 18))))) (tAsg (tCB (uAbs) (tCons (tVar 2) (tNil))) (gName 3)) (tNext)) (t__law_pen_r1 K))
def t__law_pen (K : PySem.W.Frag) : TS :=
  tSeq (tAsg (tC (.int 0)) (gName 2)) (tSeq (tIfS (tTest (tOp (rI0 fun i j => .bl (decide (i < j))) (tVar 1) (tCB (uLen K) (tCons (tVar 0) (tNil))))) (tAsg (tOp (uIx K) (tVar 0) (tVar 1)) (gName 2)) (tNext)) (t__law_pen_r2 K))
theorem dv__law_pen {P : Program} {w : World} {K : PySem.W.Frag} {mg : Str → Option Value} {b : Heap} {a : Addr} {d : FuncData} {sp : Sp} (F : Fn K mg "_law_pen" s__law_pen_ a d ["script", "k"])
    (n_len : mg "len" = none)
    (n_abs : mg "abs" = none)
    (len : ∀ vs H Q E, sp vs H Q E → vs.length = 2)
    (rd : ∀ vs H Q E, sp vs H Q E → run (t__law_pen K) (start N__law_pen vs) H Q) : Keeps P w K mg b CX0 2 a d ["script", "k"] sp := by
  refine keeps0 F.fn sc__law_pen len fun cdv A o s H vs Q E hr h => ⟨t__law_pen K, ?_, rd vs H Q E h⟩
  unfold t__law_pen t__law_pen_r2 t__law_pen_r1
  exact (pss_cons (ps_set (i := 2) sc__law_pen.nd rfl (.inl rfl) pe_int)
  (pss_cons (ps_if (pt_cmpR op_lt (pv 1) (pe_callB call_uLen (by rfl) n_len (by decide +kernel) (pa_cons (pv 0) pa_nil)) (nomark _)) (pss_one (ps_set (i := 2) sc__law_pen.nd rfl (.inl rfl) (pe_ix ix_u (pv 0) (pv 1) (fun _ _ => rfl)))) pss_nil)
  (pss_cons (ps_set (i := 3) sc__law_pen.nd rfl (.inl rfl) pe_int)
  (pss_cons (ps_if (pt_cmpR op_ge (pe_callB call_uAbs (by rfl) n_abs (by decide +kernel) (pa_cons (pv 2) pa_nil)) (pe_op op_pow pe_int pe_int) (nomark _)) (pss_one (ps_set (i := 3) sc__law_pen.nd rfl (.inl rfl) (pe_callB call_uAbs (by rfl) n_abs (by decide +kernel) (pa_cons (pv 2) pa_nil)))) pss_nil)
  (pss_one (ps_ret (pe_lstU (pa_cons (pv 3) (pa_cons (pe_op op_mod (pv 2) pe_int) (pa_cons pe_int pa_nil))))))))))

abbrev s__law_draw_ : Stmt := topS 41
abbrev N__law_draw : List Str := ["pen", "base", "found", "many", "number"]
theorem sc__law_draw : FnScope N__law_draw ["pen", "base"] (defScope s__law_draw_) := ⟨rfl, rfl, rfl, by decide +kernel, rfl, by decide +kernel, by decide +kernel⟩
def t__law_draw_r1 (K : PySem.W.Frag) : TS :=
  tSeq (tAsg (tOp (uAdd K) (tOp (uIx K) (tVar 0) (tC (.int 2))) (tC (.int 1))) (gSub (tVar 0) (tC (.int 2)) uSetL)) (tSeq (tAsg (tOp (uIx K) (tVar 0) (tC (.int 2))) (gName 3)) (tSeq (tAsg (tOp (rI (fun _ j => 0 < j) fun i j => .int (i % j)) (tOp (uAdd K) (tOp (uAdd K) (tOp uMul (tOp (uIx K) (tVar 0) (tC (.int 1))) (tC (.int 40503))) (tOp uMul (tOp uMul (tC (.int 7919)) (tVar 3)) (tVar 3))) (tOp uMul (tC (.int 104729)) (tVar 3))) (tC (.int 2147483647))) (gName 4)) (tSeq (tAsg (tOp (rI (fun _ j => 0 < j) fun i j => .int (i % j)) (tOp uMul (tVar 4) (tOp (uAdd K) (tOp (rI (fun _ j => 0 < j) fun i j => .int (i % j)) (tVar 4) (tC (.int 65003))) (tC (.int 3)))) (tC (.int 2147483587))) (gName 4)) (tRet (tOp (rI (fun _ j => 0 < j) fun i j => .int (i % j)) (tOp (rI CDiv fun i j => .int (i / j)) (tOp (rI (fun _ j => 0 < j) fun i j => .int (i % j)) (tOp (uAdd K) (tOp uMul (tVar 4) (tC (.int 69621))) (tVar 3)) (tC (.int 2147483563))) (tC (.int 16))) (tVar 1))))))
def t__law_draw (K : PySem.W.Frag) : TS :=
  tSeq (tIfS (tTest (tOp (rI0 fun i j => .bl (decide (j < i))) (tOp (uIx K) (tVar 0) (tC (.int 0))) (tC (.int 0)))) (tSeq (tAsg (tOp (rI (fun _ j => 0 < j) fun i j => .int (i % j)) (tOp (uIx K) (tVar 0) (tC (.int 0))) (tVar 1)) (gName 2)) (tSeq (tAsg (tOp (rI CDiv fun i j => .int (i / j)) (tOp (uIx K) (tVar 0) (tC (.int 0))) (tVar 1)) (gSub (tVar 0) (tC (.int 0)) uSetL)) (tRet (tVar 2)))) (tNext)) (t__law_draw_r1 K)
theorem dv__law_draw {P : Program} {w : World} {K : PySem.W.Frag} {mg : Str → Option Value} {b : Heap} {a : Addr} {d : FuncData} {sp : Sp} (F : Fn K mg "_law_draw" s__law_draw_ a d ["pen", "base"])
    (len : ∀ vs H Q E, sp vs H Q E → vs.length = 2)
    (rd : ∀ vs H Q E, sp vs H Q E → run (t__law_draw K) (start N__law_draw vs) H Q) : Keeps P w K mg b CX0 2 a d ["pen", "base"] sp := by
  refine keeps0 F.fn sc__law_draw len fun cdv A o s H vs Q E hr h => ⟨t__law_draw K, ?_, rd vs H Q E h⟩
  unfold t__law_draw t__law_draw_r1
  exact (pss_cons (ps_if (pt_cmpR op_gt (pe_ix ix_u (pv 0) pe_int (fun _ _ => rfl)) pe_int (nomark _)) (pss_cons (ps_set (i := 2) sc__law_draw.nd rfl (.inl rfl) (pe_op op_mod (pe_ix ix_u (pv 0) pe_int (fun _ _ => rfl)) (pv 1)))
  (pss_cons (ps_asg (pe_op op_fdiv (pe_ix ix_u (pv 0) pe_int (fun _ _ => rfl)) (pv 1)) (pg_sub (pv 0) pe_int set_u))
  (pss_one (ps_ret (pv 2))))) pss_nil)
  (pss_cons (ps_asg (pe_op op_uAdd (pe_ix ix_u (pv 0) pe_int (fun _ _ => rfl)) pe_int) (pg_sub (pv 0) pe_int set_u))
  (pss_cons (ps_set (i := 3) sc__law_draw.nd rfl (.inl rfl) (pe_ix ix_u (pv 0) pe_int (fun _ _ => rfl)))
  (pss_cons (ps_set (i := 4) sc__law_draw.nd rfl (.inl rfl) (pe_op op_mod (pe_op op_uAdd (pe_op op_uAdd (pe_op op_uMul (pe_ix ix_u (pv 0) pe_int (fun _ _ => rfl)) pe_int) (pe_op op_uMul (pe_op op_uMul pe_int (pv 3)) (pv 3))) (pe_op op_uMul pe_int (pv 3))) pe_int))
  (pss_cons (ps_set (i := 4) sc__law_draw.nd rfl (.inl rfl) (pe_op op_mod (pe_op op_uMul (pv 4) (pe_op op_uAdd (pe_op op_mod (pv 4) pe_int) pe_int)) pe_int))
  (pss_one (ps_ret (pe_op op_mod (pe_op op_fdiv (pe_op op_mod (pe_op op_uAdd (pe_op op_uMul (pv 4) pe_int) (pv 3)) pe_int) pe_int) (pv 1)))))))))

abbrev s__law_word_ : Stmt := topS 42
abbrev N__law_word : List Str := ["pen", "size", "letters", "word", "k"]
theorem sc__law_word : FnScope N__law_word ["pen", "size"] (defScope s__law_word_) := ⟨rfl, rfl, rfl, by decide +kernel, rfl, by decide +kernel, by decide +kernel⟩
def t__law_word_b1 (K : PySem.W.Frag) (s__law_draw : Sp) : TS :=
  tAsg (tOp (uAdd K) (tVar 3) (tOp (uIx K) (tOp (uAdd K) (tVar 2) (tC (.str "0123456789"))) (tGo s__law_draw E0 (tCons (tVar 0) (tCons (tC (.int 36)) (tNil)))))) (gName 3)
def t__law_word_r1 (K : PySem.W.Frag) (s__law_draw : Sp) : TS :=
  tRet (tVar 3)
def t__law_word (K : PySem.W.Frag) (s__law_draw : Sp) : TS :=
  tSeq (tAsg (tC (.str "abcdefghijklmnopqrstuvwxyz")) (gName 2)) (tSeq (tAsg (tOp (uIx K) (tVar 2) (tGo s__law_draw E0 (tCons (tVar 0) (tCons (tC (.int 26)) (tNil))))) (gName 3)) (tSeq (tFor (iRng1 (tCons (tOp (rI0 fun i j => .int (i - j)) (tVar 1) (tC (.int 1))) (tNil))) (gName 4) (t__law_word_b1 K s__law_draw)) (t__law_word_r1 K s__law_draw)))
theorem dv__law_word {P : Program} {w : World} {K : PySem.W.Frag} {mg : Str → Option Value} {b : Heap} {a : Addr} {d : FuncData} {sp : Sp} (F : Fn K mg "_law_word" s__law_word_ a d ["pen", "size"])
    {a__law_draw : Addr} {d__law_draw : FuncData} {s__law_draw : Sp} (F__law_draw : Fn K mg "_law_draw" s__law_draw_ a__law_draw d__law_draw ["pen", "base"]) (k__law_draw : Keeps P w K mg b CX0 2 a__law_draw d__law_draw ["pen", "base"] s__law_draw)
    (n_range : mg "range" = none)
    (len : ∀ vs H Q E, sp vs H Q E → vs.length = 2)
    (rd : ∀ vs H Q E, sp vs H Q E → run (t__law_word K s__law_draw) (start N__law_word vs) H Q) : Keeps P w K mg b CX0 3 a d ["pen", "size"] sp := by
  refine keeps0 F.fn sc__law_word len fun cdv A o s H vs Q E hr h => ⟨t__law_word K s__law_draw, ?_, rd vs H Q E h⟩
  unfold t__law_word t__law_word_r1 t__law_word_b1
  exact (pss_cons (ps_set (i := 2) sc__law_word.nd rfl (.inl rfl) pe_str)
  (pss_cons (ps_set (i := 3) sc__law_word.nd rfl (.inl rfl) (pe_ix ix_u (pv 2) (pe_go k__law_draw (hr.mono (by decide)) rfl F__law_draw.g F__law_draw.fn.kp F__law_draw.b pass0 (pa_cons (pv 0) (pa_cons pe_int pa_nil))) (fun _ _ => rfl)))
  (pss_cons (ps_for PassesOwn.never rfl (pi_range1 (by rfl) n_range (pa_cons (pe_op op_sub (pv 1) pe_int) pa_nil)) (pg_name (i := 4) sc__law_word.nd rfl (.inl rfl)) (pss_one (ps_set (i := 3) sc__law_word.nd rfl (.inl rfl) (pe_op op_uAdd (pv 3) (pe_ix ix_u (pe_op op_uAdd (pv 2) pe_str) (pe_go k__law_draw (hr.mono (by decide)) rfl F__law_draw.g F__law_draw.fn.kp F__law_draw.b pass0 (pa_cons (pv 0) (pa_cons pe_int pa_nil))) (fun _ _ => rfl))))))
  (pss_one (ps_ret (pv 3))))))

abbrev s__law_names_ : Stmt := topS 43
abbrev N__law_names : List Str := ["pen", "many", "letters", "pick", "size", "base", "at", "signs", "first", "found", "k", "sign", "word"]
theorem sc__law_names : FnScope N__law_names ["pen", "many"] (defScope s__law_names_) := ⟨rfl, rfl, rfl, by decide +kernel, rfl, by decide +kernel, by decide +kernel⟩
def t__law_names_r1 (K : PySem.W.Frag) (s__law_draw : Sp) (s__law_word : Sp) : TS :=
  tDrop (tBM K "list" uInsert (tVar 9) (tCons (tGo s__law_draw E0 (tCons (tVar 0) (tCons (tOp (uAdd K) (tCB (uLen K) (tCons (tVar 9) (tNil))) (tC (.int 1))) (tNil)))) (tCons (tVar 12) (tNil))))
def t__law_names_r2 (K : PySem.W.Frag) (s__law_draw : Sp) (s__law_word : Sp) : TS :=
  tSeq (tIfS (tTest (tOp (uEq K false) (tVar 3) (tC (.int 2)))) (tAsg (tSl (uSl K) (tOp uMulS (tOp (uIx K) (tVar 2) (tOp (rI (fun _ j => 0 < j) fun i j => .int (i % j)) (tOp (uAdd K) (tVar 8) (tOp (rI CDiv fun i j => .int (i / j)) (tVar 10) (tC (.int 8)))) (tC (.int 26)))) (tC (.int 8))) (tNoPart) (tPart (tOp (uAdd K) (tOp (rI (fun _ j => 0 < j) fun i j => .int (i % j)) (tVar 10) (tC (.int 8))) (tC (.int 1))))) (gName 12)) (tNext)) (t__law_names_r1 K s__law_draw s__law_word)
def t__law_names_b1 (K : PySem.W.Frag) (s__law_draw : Sp) (s__law_word : Sp) : TS :=
  tSeq (tAsg (tOp (uIx K) (tVar 7) (tOp (rI (fun _ j => 0 < j) fun i j => .int (i % j)) (tOp (uAdd K) (tVar 8) (tOp uMul (tC (.int 5)) (tVar 10))) (tCB (uLen K) (tCons (tVar 7) (tNil))))) (gName 11)) (tSeq (tAsg (tOp (uAdd K) (tOp (uAdd K) (tSl (uSl K) (tVar 5) (tNoPart) (tPart (tVar 6))) (tVar 11)) (tSl (uSl K) (tVar 5) (tPart (tOp (uAdd K) (tVar 6) (tC (.int 1)))) (tNoPart))) (gName 12)) (tSeq (tIfS (tTest (tOp (uEq K false) (tVar 3) (tC (.int 1)))) (tAsg (tOp (uAdd K) (tOp (uIx K) (tVar 2) (tOp (rI (fun _ j => 0 < j) fun i j => .int (i % j)) (tOp (uAdd K) (tVar 8) (tOp uMul (tC (.int 5)) (tVar 10))) (tC (.int 26)))) (tGo s__law_word E0 (tCons (tVar 0) (tCons (tOp (uAdd K) (tC (.int 1)) (tGo s__law_draw E0 (tCons (tVar 0) (tCons (tC (.int 7)) (tNil))))) (tNil))))) (gName 12)) (tNext)) (t__law_names_r2 K s__law_draw s__law_word)))
def t__law_names_r3 (K : PySem.W.Frag) (s__law_draw : Sp) (s__law_word : Sp) : TS :=
  tRet (tVar 9)
def t__law_names (K : PySem.W.Frag) (s__law_draw : Sp) (s__law_word : Sp) : TS :=
  tSeq (tAsg (tC (.str "abcdefghijklmnopqrstuvwxyz")) (gName 2)) (tSeq (tAsg (tGo s__law_draw E0 (tCons (tVar 0) (tCons (tC (.int 3)) (tNil)))) (gName 3)) (tSeq (tAsg (tOp (uAdd K) (tC (.int 1)) (tGo s__law_draw E0 (tCons (tVar 0) (tCons (tC (.int 8)) (tNil))))) (gName 4)) (tSeq (tAsg (tGo s__law_word E0 (tCons (tVar 0) (tCons (tVar 4) (tNil)))) (gName 5)) (tSeq (tAsg (tGo s__law_draw E0 (tCons (tVar 0) (tCons (tVar 4) (tNil)))) (gName 6)) (tSeq (tAsg (tOp (uIx K) (tLstU (tCons (tOp (uAdd K) (tVar 2) (tC (.str "0123456789"))) (tCons (tVar 2) (tNil)))) (tCB (uInt) (tCons (tOp (uEq K false) (tVar 6) (tC (.int 0))) (tNil)))) (gName 7)) (tSeq (tAsg (tGo s__law_draw E0 (tCons (tVar 0) (tCons (tCB (uLen K) (tCons (tVar 7) (tNil))) (tNil)))) (gName 8)) (tSeq (tAsg (tLstU (tNil)) (gName 9)) (tSeq (tFor (iRng1 (tCons (tVar 1) (tNil))) (gName 10) (t__law_names_b1 K s__law_draw s__law_word)) (t__law_names_r3 K s__law_draw s__law_word)))))))))
theorem dv__law_names {P : Program} {w : World} {K : PySem.W.Frag} {mg : Str → Option Value} {b : Heap} {a : Addr} {d : FuncData} {sp : Sp} (F : Fn K mg "_law_names" s__law_names_ a d ["pen", "many"])
    {a__law_draw : Addr} {d__law_draw : FuncData} {s__law_draw : Sp} (F__law_draw : Fn K mg "_law_draw" s__law_draw_ a__law_draw d__law_draw ["pen", "base"]) (k__law_draw : Keeps P w K mg b CX0 2 a__law_draw d__law_draw ["pen", "base"] s__law_draw)
    {a__law_word : Addr} {d__law_word : FuncData} {s__law_word : Sp} (F__law_word : Fn K mg "_law_word" s__law_word_ a__law_word d__law_word ["pen", "size"]) (k__law_word : Keeps P w K mg b CX0 3 a__law_word d__law_word ["pen", "size"] s__law_word)
    (n_int : mg "int" = none)
    (n_len : mg "len" = none)
    (n_range : mg "range" = none)
    (len : ∀ vs H Q E, sp vs H Q E → vs.length = 2)
    (rd : ∀ vs H Q E, sp vs H Q E → run (t__law_names K s__law_draw s__law_word) (start N__law_names vs) H Q) : Keeps P w K mg b CX0 4 a d ["pen", "many"] sp := by
  refine keeps0 F.fn sc__law_names len fun cdv A o s H vs Q E hr h => ⟨t__law_names K s__law_draw s__law_word, ?_, rd vs H Q E h⟩
  unfold t__law_names t__law_names_r3 t__law_names_b1 t__law_names_r2 t__law_names_r1
  exact (pss_cons (ps_set (i := 2) sc__law_names.nd rfl (.inl rfl) pe_str)
  (pss_cons (ps_set (i := 3) sc__law_names.nd rfl (.inl rfl) (pe_go k__law_draw (hr.mono (by decide)) rfl F__law_draw.g F__law_draw.fn.kp F__law_draw.b pass0 (pa_cons (pv 0) (pa_cons pe_int pa_nil))))
  (pss_cons (ps_set (i := 4) sc__law_names.nd rfl (.inl rfl) (pe_op op_uAdd pe_int (pe_go k__law_draw (hr.mono (by decide)) rfl F__law_draw.g F__law_draw.fn.kp F__law_draw.b pass0 (pa_cons (pv 0) (pa_cons pe_int pa_nil)))))
  (pss_cons (ps_set (i := 5) sc__law_names.nd rfl (.inl rfl) (pe_go k__law_word (hr.mono (by decide)) rfl F__law_word.g F__law_word.fn.kp F__law_word.b pass0 (pa_cons (pv 0) (pa_cons (pv 4) pa_nil))))
  (pss_cons (ps_set (i := 6) sc__law_names.nd rfl (.inl rfl) (pe_go k__law_draw (hr.mono (by decide)) rfl F__law_draw.g F__law_draw.fn.kp F__law_draw.b pass0 (pa_cons (pv 0) (pa_cons (pv 4) pa_nil))))
  (pss_cons (ps_set (i := 7) sc__law_names.nd rfl (.inl rfl) (pe_ix ix_u (pe_lstU (pa_cons (pe_op op_uAdd (pv 2) pe_str) (pa_cons (pv 2) pa_nil))) (pe_callTy call_uInt (by rfl) n_int (by decide +kernel) (pa_cons (pe_cmpR (op_uEq hr.rm.units) (pv 6) pe_int (nomark _)) pa_nil)) (fun _ _ => rfl)))
  (pss_cons (ps_set (i := 8) sc__law_names.nd rfl (.inl rfl) (pe_go k__law_draw (hr.mono (by decide)) rfl F__law_draw.g F__law_draw.fn.kp F__law_draw.b pass0 (pa_cons (pv 0) (pa_cons (pe_callB call_uLen (by rfl) n_len (by decide +kernel) (pa_cons (pv 7) pa_nil)) pa_nil))))
  (pss_cons (ps_set (i := 9) sc__law_names.nd rfl (.inl rfl) (pe_lstU pa_nil))
  (pss_cons (ps_for PassesOwn.never rfl (pi_range1 (by rfl) n_range (pa_cons (pv 1) pa_nil)) (pg_name (i := 10) sc__law_names.nd rfl (.inl rfl)) (pss_cons (ps_set (i := 11) sc__law_names.nd rfl (.inl rfl) (pe_ix ix_u (pv 7) (pe_op op_mod (pe_op op_uAdd (pv 8) (pe_op op_uMul pe_int (pv 10))) (pe_callB call_uLen (by rfl) n_len (by decide +kernel) (pa_cons (pv 7) pa_nil))) (fun _ _ => rfl)))
  (pss_cons (ps_set (i := 12) sc__law_names.nd rfl (.inl rfl) (pe_op op_uAdd (pe_op op_uAdd (pe_slice sl_u (pv 5) po_none (po_some (pv 6))) (pv 11)) (pe_slice sl_u (pv 5) (po_some (pe_op op_uAdd (pv 6) pe_int)) po_none)))
  (pss_cons (ps_if (pt_cmpR (op_uEq hr.rm.units) (pv 3) pe_int (nomark _)) (pss_one (ps_set (i := 12) sc__law_names.nd rfl (.inl rfl) (pe_op op_uAdd (pe_ix ix_u (pv 2) (pe_op op_mod (pe_op op_uAdd (pv 8) (pe_op op_uMul pe_int (pv 10))) pe_int) (fun _ _ => rfl)) (pe_go k__law_word (hr.mono (by decide)) rfl F__law_word.g F__law_word.fn.kp F__law_word.b pass0 (pa_cons (pv 0) (pa_cons (pe_op op_uAdd pe_int (pe_go k__law_draw (hr.mono (by decide)) rfl F__law_draw.g F__law_draw.fn.kp F__law_draw.b pass0 (pa_cons (pv 0) (pa_cons pe_int pa_nil)))) pa_nil)))))) pss_nil)
  (pss_cons (ps_if (pt_cmpR (op_uEq hr.rm.units) (pv 3) pe_int (nomark _)) (pss_one (ps_set (i := 12) sc__law_names.nd rfl (.inl rfl) (pe_slice sl_u (pe_op op_uMulS (pe_ix ix_u (pv 2) (pe_op op_mod (pe_op op_uAdd (pv 8) (pe_op op_fdiv (pv 10) pe_int)) pe_int) (fun _ _ => rfl)) pe_int) po_none (po_some (pe_op op_uAdd (pe_op op_mod (pv 10) pe_int) pe_int))))) pss_nil)
  (pss_one (ps_expr (pe_bm PySem.F.plainAttrs_list PySem.F.slot_list_insert PySem.F.type_list_insert mt_uInsert (pv 9) (pa_cons (pe_go k__law_draw (hr.mono (by decide)) rfl F__law_draw.g F__law_draw.fn.kp F__law_draw.b pass0 (pa_cons (pv 0) (pa_cons (pe_op op_uAdd (pe_callB call_uLen (by rfl) n_len (by decide +kernel) (pa_cons (pv 9) pa_nil)) pe_int) pa_nil))) (pa_cons (pv 12) pa_nil))))))))))
  (pss_one (ps_ret (pv 9))))))))))))

abbrev s__law_is_name_ : Stmt := topS 44
abbrev N__law_is_name : List Str := ["thing", "letters", "sign"]
theorem sc__law_is_name : FnScope N__law_is_name ["thing"] (defScope s__law_is_name_) := ⟨rfl, rfl, rfl, by decide +kernel, rfl, by decide +kernel, by decide +kernel⟩
def t__law_is_name_r1 (K : PySem.W.Frag) : TS :=
  tRet (tOp (uEq K false) (tLc (iU K (tVar 0)) (gName 2) (tTest (tOp (uIn K true) (tVar 2) (tOp (uAdd K) (tVar 1) (tC (.str "0123456789"))))) (tVar 2) [2]) (tLstU (tNil)))
def t__law_is_name (K : PySem.W.Frag) : TS :=
  tSeq (tAsg (tC (.str "abcdefghijklmnopqrstuvwxyz")) (gName 1)) (tSeq (tIfS (tOr (tNot (tTru K (tCB (rIsi K) (tCons (tVar 0) (tCons (tC (.ty "str")) (tNil)))))) (tOr (tNot (tTest (tChain (rI0 fun i j => .bl (decide (i ≤ j))) (rI0 fun i j => .bl (decide (i ≤ j))) (tC (.int 1)) (tCB (uLen K) (tCons (tVar 0) (tNil))) (tC (.int 8))))) (tTest (tOp (uIn K true) (tOp (uIx K) (tVar 0) (tC (.int 0))) (tVar 1))))) (tRet (tC (.bl false))) (tNext)) (t__law_is_name_r1 K))
theorem dv__law_is_name {P : Program} {w : World} {K : PySem.W.Frag} {mg : Str → Option Value} {b : Heap} {a : Addr} {d : FuncData} {sp : Sp} (F : Fn K mg "_law_is_name" s__law_is_name_ a d ["thing"])
    (n_isinstance : mg "isinstance" = none)
    (n_str : mg "str" = none)
    (n_len : mg "len" = none)
    (len : ∀ vs H Q E, sp vs H Q E → vs.length = 1)
    (rd : ∀ vs H Q E, sp vs H Q E → run (t__law_is_name K) (start N__law_is_name vs) H Q) : Keeps P w K mg b CX0 2 a d ["thing"] sp := by
  refine keeps0 F.fn sc__law_is_name len fun cdv A o s H vs Q E hr h => ⟨t__law_is_name K, ?_, rd vs H Q E h⟩
  unfold t__law_is_name t__law_is_name_r1
  exact (pss_cons (ps_set (i := 1) sc__law_is_name.nd rfl (.inr rfl) pe_str)
  (pss_cons (ps_if (PW.pt (pw_or (pt_not (pt_tru (pe_callB call_isi (by rfl) n_isinstance (by decide +kernel) (pa_cons (pv 0) (pa_cons (pe_bltn (v := .ty "str") (by rfl) n_str (by decide +kernel) rfl) pa_nil))))) (pw_or (pt_not (pt_chain op_le op_le pe_int (pe_callB call_uLen (by rfl) n_len (by decide +kernel) (pa_cons (pv 0) pa_nil)) pe_int)) (pw_or1 (pt_cmpR op_uNotIn (pe_ix ix_u (pv 0) pe_int (fun _ _ => rfl)) (pv 1) rfl))))) (pss_one (ps_ret pe_bl)) pss_nil)
  (pss_one (ps_ret (pe_cmpR (op_uEq hr.rm.units) (pe_lc (own := [("sign", 2)]) rfl sc__law_is_name.nd (pi_u (pv 0)) (blkOk_by (own := [("sign", 2)]) (N := N__law_is_name) (sc := defScope s__law_is_name_) (by decide +kernel)) (fun _ _ _ _ _ => (pg_name (i := 2) sc__law_is_name.nd rfl (.inl rfl))) (fun _ _ _ _ _ => (pts_one (pt_cmpR op_uNotIn (pv 2) (pe_op op_uAdd (pv 1) pe_str) rfl))) (fun _ _ _ _ _ => (pv 2))) (pe_lstU pa_nil) (nomark _))))))

abbrev s__law_whole_ : Stmt := topS 45
abbrev N__law_whole : List Str := ["thing", "least", "most"]
theorem sc__law_whole : FnScope N__law_whole ["thing", "least", "most"] (defScope s__law_whole_) := ⟨rfl, rfl, rfl, by decide +kernel, rfl, by decide +kernel, by decide +kernel⟩
def t__law_whole (K : PySem.W.Frag) : TS :=
  tRet (tAndT K (tCB (rIsi K) (tCons (tVar 0) (tCons (tC (.ty "int")) (tNil)))) (tAndT K (tNotT K (tCB (rIsi K) (tCons (tVar 0) (tCons (tC (.ty "bool")) (tNil))))) (tChain (rI0 fun i j => .bl (decide (i ≤ j))) (rI0 fun i j => .bl (decide (i ≤ j))) (tVar 1) (tVar 0) (tVar 2))))
theorem dv__law_whole {P : Program} {w : World} {K : PySem.W.Frag} {mg : Str → Option Value} {b : Heap} {a : Addr} {d : FuncData} {sp : Sp} (F : Fn K mg "_law_whole" s__law_whole_ a d ["thing", "least", "most"])
    (n_isinstance : mg "isinstance" = none)
    (n_int : mg "int" = none)
    (n_bool : mg "bool" = none)
    (len : ∀ vs H Q E, sp vs H Q E → vs.length = 3)
    (rd : ∀ vs H Q E, sp vs H Q E → run (t__law_whole K) (start N__law_whole vs) H Q) : Keeps P w K mg b CX0 2 a d ["thing", "least", "most"] sp := by
  refine keeps0 F.fn sc__law_whole len fun cdv A o s H vs Q E hr h => ⟨t__law_whole K, ?_, rd vs H Q E h⟩
  unfold t__law_whole 
  exact (pss_one (ps_ret (pe_andT (pe_callB call_isi (by rfl) n_isinstance (by decide +kernel) (pa_cons (pv 0) (pa_cons (pe_bltn (v := .ty "int") (by rfl) n_int (by decide +kernel) rfl) pa_nil))) (pe_andT (pe_notT (pe_callB call_isi (by rfl) n_isinstance (by decide +kernel) (pa_cons (pv 0) (pa_cons (pe_bltn (v := .ty "bool") (by rfl) n_bool (by decide +kernel) rfl) pa_nil)))) (pe_one (pe_chain op_le op_le (pv 1) (pv 0) (pv 2)))))))

abbrev s__law_is_way_ : Stmt := topS 46
abbrev N__law_is_way : List Str := ["thing"]
theorem sc__law_is_way : FnScope N__law_is_way ["thing"] (defScope s__law_is_way_) := ⟨rfl, rfl, rfl, by decide +kernel, rfl, by decide +kernel, by decide +kernel⟩
def t__law_is_way (K : PySem.W.Frag) (s__law_whole : Sp) : TS :=
  tRet (tOrT K (tOp rIsN (tVar 0) (tC .non)) (tGo s__law_whole E0 (tCons (tVar 0) (tCons (tC (.int 1)) (tCons (tC (.int 60)) (tNil))))))
theorem dv__law_is_way {P : Program} {w : World} {K : PySem.W.Frag} {mg : Str → Option Value} {b : Heap} {a : Addr} {d : FuncData} {sp : Sp} (F : Fn K mg "_law_is_way" s__law_is_way_ a d ["thing"])
    {a__law_whole : Addr} {d__law_whole : FuncData} {s__law_whole : Sp} (F__law_whole : Fn K mg "_law_whole" s__law_whole_ a__law_whole d__law_whole ["thing", "least", "most"]) (k__law_whole : Keeps P w K mg b CX0 2 a__law_whole d__law_whole ["thing", "least", "most"] s__law_whole)
    (len : ∀ vs H Q E, sp vs H Q E → vs.length = 1)
    (rd : ∀ vs H Q E, sp vs H Q E → run (t__law_is_way K s__law_whole) (start N__law_is_way vs) H Q) : Keeps P w K mg b CX0 3 a d ["thing"] sp := by
  refine keeps0 F.fn sc__law_is_way len fun cdv A o s H vs Q E hr h => ⟨t__law_is_way K s__law_whole, ?_, rd vs H Q E h⟩
  unfold t__law_is_way 
  exact (pss_one (ps_ret (pe_orT (pe_cmpR op_isN (pv 0) pe_non (nomark _)) (pe_one (pe_go k__law_whole (hr.mono (by decide)) rfl F__law_whole.g F__law_whole.fn.kp F__law_whole.b pass0 (pa_cons (pv 0) (pa_cons pe_int (pa_cons pe_int pa_nil))))))))

abbrev s__law_is_road_ : Stmt := topS 47
abbrev N__law_is_road : List Str := ["places", "thing"]
theorem sc__law_is_road : FnScope N__law_is_road ["places", "thing"] (defScope s__law_is_road_) := ⟨rfl, rfl, rfl, by decide +kernel, rfl, by decide +kernel, by decide +kernel⟩
def t__law_is_road_r1 (K : PySem.W.Frag) (s__law_is_name : Sp) (s__law_is_way : Sp) : TS :=
  tRet (tAndT K (tGo s__law_is_way E0 (tCons (tOp (uIx K) (tVar 1) (tC (.int 2))) (tNil))) (tGo s__law_is_way E0 (tCons (tOp (uIx K) (tVar 1) (tC (.int 3))) (tNil))))
def t__law_is_road_r2 (K : PySem.W.Frag) (s__law_is_name : Sp) (s__law_is_way : Sp) : TS :=
  tSeq (tIfS (tOr (tTest (tOp (uIn K true) (tOp (uIx K) (tVar 1) (tC (.int 0))) (tVar 0))) (tTest (tOp (uIn K true) (tOp (uIx K) (tVar 1) (tC (.int 1))) (tVar 0)))) (tRet (tC (.bl false))) (tNext)) (t__law_is_road_r1 K s__law_is_name s__law_is_way)
def t__law_is_road_r3 (K : PySem.W.Frag) (s__law_is_name : Sp) (s__law_is_way : Sp) : TS :=
  tSeq (tIfS (tOr (tNot (tTru K (tGo s__law_is_name E0 (tCons (tOp (uIx K) (tVar 1) (tC (.int 0))) (tNil))))) (tOr (tNot (tTru K (tGo s__law_is_name E0 (tCons (tOp (uIx K) (tVar 1) (tC (.int 1))) (tNil))))) (tTest (tOp (uEq K false) (tOp (uIx K) (tVar 1) (tC (.int 0))) (tOp (uIx K) (tVar 1) (tC (.int 1))))))) (tRet (tC (.bl false))) (tNext)) (t__law_is_road_r2 K s__law_is_name s__law_is_way)
def t__law_is_road (K : PySem.W.Frag) (s__law_is_name : Sp) (s__law_is_way : Sp) : TS :=
  tSeq (tIfS (tOr (tNot (tTru K (tCB (rIsi K) (tCons (tVar 1) (tCons (tC (.ty "tuple")) (tNil)))))) (tOr (tTest (tOp (uEq K true) (tCB (uLen K) (tCons (tVar 1) (tNil))) (tC (.int 4)))) (tAnd (tTest (tOp rIsN (tOp (uIx K) (tVar 1) (tC (.int 2))) (tC .non))) (tTest (tOp rIsN (tOp (uIx K) (tVar 1) (tC (.int 3))) (tC .non)))))) (tRet (tC (.bl false))) (tNext)) (t__law_is_road_r3 K s__law_is_name s__law_is_way)
theorem dv__law_is_road {P : Program} {w : World} {K : PySem.W.Frag} {mg : Str → Option Value} {b : Heap} {a : Addr} {d : FuncData} {sp : Sp} (F : Fn K mg "_law_is_road" s__law_is_road_ a d ["places", "thing"])
    (n_isinstance : mg "isinstance" = none)
    (n_tuple : mg "tuple" = none)
    (n_len : mg "len" = none)
    {a__law_is_name : Addr} {d__law_is_name : FuncData} {s__law_is_name : Sp} (F__law_is_name : Fn K mg "_law_is_name" s__law_is_name_ a__law_is_name d__law_is_name ["thing"]) (k__law_is_name : Keeps P w K mg b CX0 2 a__law_is_name d__law_is_name ["thing"] s__law_is_name)
    {a__law_is_way : Addr} {d__law_is_way : FuncData} {s__law_is_way : Sp} (F__law_is_way : Fn K mg "_law_is_way" s__law_is_way_ a__law_is_way d__law_is_way ["thing"]) (k__law_is_way : Keeps P w K mg b CX0 3 a__law_is_way d__law_is_way ["thing"] s__law_is_way)
    (len : ∀ vs H Q E, sp vs H Q E → vs.length = 2)
    (rd : ∀ vs H Q E, sp vs H Q E → run (t__law_is_road K s__law_is_name s__law_is_way) (start N__law_is_road vs) H Q) : Keeps P w K mg b CX0 4 a d ["places", "thing"] sp := by
  refine keeps0 F.fn sc__law_is_road len fun cdv A o s H vs Q E hr h => ⟨t__law_is_road K s__law_is_name s__law_is_way, ?_, rd vs H Q E h⟩
  unfold t__law_is_road t__law_is_road_r3 t__law_is_road_r2 t__law_is_road_r1
  exact (pss_cons (ps_if (PW.pt (pw_or (pt_not (pt_tru (pe_callB call_isi (by rfl) n_isinstance (by decide +kernel) (pa_cons (pv 1) (pa_cons (pe_bltn (v := .ty "tuple") (by rfl) n_tuple (by decide +kernel) rfl) pa_nil))))) (pw_or (pt_cmpR (op_uNe hr.rm.units) (pe_callB call_uLen (by rfl) n_len (by decide +kernel) (pa_cons (pv 1) pa_nil)) pe_int (nomark _)) (pw_or1 (PW.pt (pw_and (pt_cmpR op_isN (pe_ix ix_u (pv 1) pe_int (fun _ _ => rfl)) pe_non (nomark _)) (pw_and1 (pt_cmpR op_isN (pe_ix ix_u (pv 1) pe_int (fun _ _ => rfl)) pe_non (nomark _))))))))) (pss_one (ps_ret pe_bl)) pss_nil)
  (pss_cons (ps_if (PW.pt (pw_or (pt_not (pt_tru (pe_go k__law_is_name (hr.mono (by decide)) rfl F__law_is_name.g F__law_is_name.fn.kp F__law_is_name.b pass0 (pa_cons (pe_ix ix_u (pv 1) pe_int (fun _ _ => rfl)) pa_nil)))) (pw_or (pt_not (pt_tru (pe_go k__law_is_name (hr.mono (by decide)) rfl F__law_is_name.g F__law_is_name.fn.kp F__law_is_name.b pass0 (pa_cons (pe_ix ix_u (pv 1) pe_int (fun _ _ => rfl)) pa_nil)))) (pw_or1 (pt_cmpR (op_uEq hr.rm.units) (pe_ix ix_u (pv 1) pe_int (fun _ _ => rfl)) (pe_ix ix_u (pv 1) pe_int (fun _ _ => rfl)) (nomark _)))))) (pss_one (ps_ret pe_bl)) pss_nil)
  (pss_cons (ps_if (PW.pt (pw_or (pt_cmpR op_uNotIn (pe_ix ix_u (pv 1) pe_int (fun _ _ => rfl)) (pv 0) rfl) (pw_or1 (pt_cmpR op_uNotIn (pe_ix ix_u (pv 1) pe_int (fun _ _ => rfl)) (pv 0) rfl)))) (pss_one (ps_ret pe_bl)) pss_nil)
  (pss_one (ps_ret (pe_andT (pe_go k__law_is_way (hr.mono (by decide)) rfl F__law_is_way.g F__law_is_way.fn.kp F__law_is_way.b pass0 (pa_cons (pe_ix ix_u (pv 1) pe_int (fun _ _ => rfl)) pa_nil)) (pe_one (pe_go k__law_is_way (hr.mono (by decide)) rfl F__law_is_way.g F__law_is_way.fn.kp F__law_is_way.b pass0 (pa_cons (pe_ix ix_u (pv 1) pe_int (fun _ _ => rfl)) pa_nil)))))))))

abbrev s__law_marks_ : Stmt := topS 48
abbrev N__law_marks : List Str := ["error", "found"]
theorem sc__law_marks : FnScope N__law_marks ["error"] (defScope s__law_marks_) := ⟨rfl, rfl, rfl, by decide +kernel, rfl, by decide +kernel, by decide +kernel⟩
def t__law_marks (K : PySem.W.Frag) (c_WagonError : Addr) (c_NoText : Addr) (c_NoMoment : Addr) (c_NoLog : Addr) (c_NoDeed : Addr) (c_NoCall : Addr) (c_Late : Addr) (c_TooMany : Addr) (c_NoTown : Addr) (c_NoTelling : Addr) (c_NoRow : Addr) (c_NoPaper : Addr) : TS :=
  tSeq (tAsg (tLstU (tCons (tCB (rIsV K) (tCons (tVar 0) (tCons (tC (.ref c_NoText)) (tNil)))) (tCons (tCB (rIsV K) (tCons (tVar 0) (tCons (tC (.ref c_WagonError)) (tNil)))) (tNil)))) (gName 1)) (tSeq (tDrop (tBM K "list" uAppend (tVar 1) (tCons (tCB (rIsV K) (tCons (tVar 0) (tCons (tC (.ty "ValueError")) (tNil)))) (tNil)))) (tSeq (tDrop (tBM K "list" uAppend (tVar 1) (tCons (tCB (rIsV K) (tCons (tVar 0) (tCons (tTupU (tCons (tC (.ref c_Late)) (tCons (tC (.ref c_NoCall)) (tCons (tC (.ref c_NoDeed)) (tCons (tC (.ref c_NoLog)) (tCons (tC (.ref c_NoMoment)) (tNil))))))) (tNil)))) (tNil)))) (tRet (tOp (uAdd K) (tVar 1) (tLstU (tCons (tCB (rIsV K) (tCons (tVar 0) (tCons (tTupU (tCons (tC (.ref c_NoPaper)) (tCons (tC (.ref c_NoRow)) (tCons (tC (.ref c_NoTelling)) (tCons (tC (.ref c_NoTown)) (tCons (tC (.ref c_TooMany)) (tNil))))))) (tNil)))) (tNil)))))))
theorem dv__law_marks {P : Program} {w : World} {K : PySem.W.Frag} {mg : Str → Option Value} {b : Heap} {a : Addr} {d : FuncData} {sp : Sp} (F : Fn K mg "_law_marks" s__law_marks_ a d ["error"])
    {c_WagonError : Addr}
    {c_NoText : Addr}
    {c_NoMoment : Addr}
    {c_NoLog : Addr}
    {c_NoDeed : Addr}
    {c_NoCall : Addr}
    {c_Late : Addr}
    {c_TooMany : Addr}
    {c_NoTown : Addr}
    {c_NoTelling : Addr}
    {c_NoRow : Addr}
    {c_NoPaper : Addr}
    (g_WagonError : mg "WagonError" = some (.ref c_WagonError))
    (g_NoText : mg "NoText" = some (.ref c_NoText))
    (g_NoMoment : mg "NoMoment" = some (.ref c_NoMoment))
    (g_NoLog : mg "NoLog" = some (.ref c_NoLog))
    (g_NoDeed : mg "NoDeed" = some (.ref c_NoDeed))
    (g_NoCall : mg "NoCall" = some (.ref c_NoCall))
    (g_Late : mg "Late" = some (.ref c_Late))
    (g_TooMany : mg "TooMany" = some (.ref c_TooMany))
    (g_NoTown : mg "NoTown" = some (.ref c_NoTown))
    (g_NoTelling : mg "NoTelling" = some (.ref c_NoTelling))
    (g_NoRow : mg "NoRow" = some (.ref c_NoRow))
    (g_NoPaper : mg "NoPaper" = some (.ref c_NoPaper))
    (n_isinstance : mg "isinstance" = none)
    (n_ValueError : mg "ValueError" = none)
    (len : ∀ vs H Q E, sp vs H Q E → vs.length = 1)
    (rd : ∀ vs H Q E, sp vs H Q E → run (t__law_marks K c_WagonError c_NoText c_NoMoment c_NoLog c_NoDeed c_NoCall c_Late c_TooMany c_NoTown c_NoTelling c_NoRow c_NoPaper) (start N__law_marks vs) H Q) : Keeps P w K mg b CX0 2 a d ["error"] sp := by
  refine keeps0 F.fn sc__law_marks len fun cdv A o s H vs Q E hr h => ⟨t__law_marks K c_WagonError c_NoText c_NoMoment c_NoLog c_NoDeed c_NoCall c_Late c_TooMany c_NoTown c_NoTelling c_NoRow c_NoPaper, ?_, rd vs H Q E h⟩
  unfold t__law_marks 
  exact (pss_cons (ps_set (i := 1) sc__law_marks.nd rfl (.inl rfl) (pe_lstU (pa_cons (pe_callB call_isV (by rfl) n_isinstance (by decide +kernel) (pa_cons (pv 0) (pa_cons (pe_glob rfl g_NoText rfl) pa_nil))) (pa_cons (pe_callB call_isV (by rfl) n_isinstance (by decide +kernel) (pa_cons (pv 0) (pa_cons (pe_glob rfl g_WagonError rfl) pa_nil))) pa_nil))))
  (pss_cons (ps_expr (pe_bm PySem.F.plainAttrs_list PySem.F.slot_list_append PySem.F.type_list_append mt_uAppend (pv 1) (pa_cons (pe_callB call_isV (by rfl) n_isinstance (by decide +kernel) (pa_cons (pv 0) (pa_cons (pe_bltn (v := .ty "ValueError") (by rfl) n_ValueError (by decide +kernel) rfl) pa_nil))) pa_nil)))
  (pss_cons (ps_expr (pe_bm PySem.F.plainAttrs_list PySem.F.slot_list_append PySem.F.type_list_append mt_uAppend (pv 1) (pa_cons (pe_callB call_isV (by rfl) n_isinstance (by decide +kernel) (pa_cons (pv 0) (pa_cons (pe_tupU (pa_cons (pe_glob rfl g_Late rfl) (pa_cons (pe_glob rfl g_NoCall rfl) (pa_cons (pe_glob rfl g_NoDeed rfl) (pa_cons (pe_glob rfl g_NoLog rfl) (pa_cons (pe_glob rfl g_NoMoment rfl) pa_nil)))))) pa_nil))) pa_nil)))
  (pss_one (ps_ret (pe_op op_uAdd (pv 1) (pe_lstU (pa_cons (pe_callB call_isV (by rfl) n_isinstance (by decide +kernel) (pa_cons (pv 0) (pa_cons (pe_tupU (pa_cons (pe_glob rfl g_NoPaper rfl) (pa_cons (pe_glob rfl g_NoRow rfl) (pa_cons (pe_glob rfl g_NoTelling rfl) (pa_cons (pe_glob rfl g_NoTown rfl) (pa_cons (pe_glob rfl g_TooMany rfl) pa_nil)))))) pa_nil))) pa_nil))))))))

abbrev s__law_number_ : Stmt := topS 49
abbrev N__law_number : List Str := ["word", "sign"]
theorem sc__law_number : FnScope N__law_number ["word"] (defScope s__law_number_) := ⟨rfl, rfl, rfl, by decide +kernel, rfl, by decide +kernel, by decide +kernel⟩
def t__law_number_r1 (K : PySem.W.Frag) : TS :=
  tRet (tCB uIntS (tCons (tVar 0) (tNil)))
def t__law_number_r2 (K : PySem.W.Frag) : TS :=
  tSeq (tIfS (tTest (tOp (uEq K true) (tLc (iU K (tVar 0)) (gName 1) (tTest (tOp (uIn K true) (tVar 1) (tC (.str "0123456789")))) (tVar 1) [1]) (tLstU (tNil)))) (tRet (tUn (rU fun i => .int (-i)) (tC (.int 1)))) (tNext)) (t__law_number_r1 K)
def t__law_number (K : PySem.W.Frag) : TS :=
  tSeq (tIfS (tOr (tTest (tOp (uEq K false) (tVar 0) (tC (.str "")))) (tOr (tTest (tOp (rI0 fun i j => .bl (decide (j < i))) (tCB (uLen K) (tCons (tVar 0) (tNil))) (tC (.int 9)))) (tAnd (tTest (tOp (uEq K false) (tOp (uIx K) (tVar 0) (tC (.int 0))) (tC (.str "0")))) (tTest (tOp (uEq K true) (tVar 0) (tC (.str "0"))))))) (tRet (tUn (rU fun i => .int (-i)) (tC (.int 1)))) (tNext)) (t__law_number_r2 K)
theorem dv__law_number {P : Program} {w : World} {K : PySem.W.Frag} {mg : Str → Option Value} {b : Heap} {a : Addr} {d : FuncData} {sp : Sp} (F : Fn K mg "_law_number" s__law_number_ a d ["word"])
    (n_len : mg "len" = none)
    (n_int : mg "int" = none)
    (len : ∀ vs H Q E, sp vs H Q E → vs.length = 1)
    (rd : ∀ vs H Q E, sp vs H Q E → run (t__law_number K) (start N__law_number vs) H Q) : Keeps P w K mg b CX0 2 a d ["word"] sp := by
  refine keeps0 F.fn sc__law_number len fun cdv A o s H vs Q E hr h => ⟨t__law_number K, ?_, rd vs H Q E h⟩
  unfold t__law_number t__law_number_r2 t__law_number_r1
  exact (pss_cons (ps_if (PW.pt (pw_or (pt_cmpR (op_uEq hr.rm.units) (pv 0) pe_str (nomark _)) (pw_or (pt_cmpR op_gt (pe_callB call_uLen (by rfl) n_len (by decide +kernel) (pa_cons (pv 0) pa_nil)) pe_int (nomark _)) (pw_or1 (PW.pt (pw_and (pt_cmpR (op_uEq hr.rm.units) (pe_ix ix_u (pv 0) pe_int (fun _ _ => rfl)) pe_str (nomark _)) (pw_and1 (pt_cmpR (op_uNe hr.rm.units) (pv 0) pe_str (nomark _))))))))) (pss_one (ps_ret (pe_un un_neg pe_int))) pss_nil)
  (pss_cons (ps_if (pt_cmpR (op_uNe hr.rm.units) (pe_lc (own := [("sign", 1)]) rfl sc__law_number.nd (pi_u (pv 0)) (blkOk_by (own := [("sign", 1)]) (N := N__law_number) (sc := defScope s__law_number_) (by decide +kernel)) (fun _ _ _ _ _ => (pg_name (i := 1) sc__law_number.nd rfl (.inl rfl))) (fun _ _ _ _ _ => (pts_one (pt_cmpR op_uNotIn (pv 1) pe_str rfl))) (fun _ _ _ _ _ => (pv 1))) (pe_lstU pa_nil) (nomark _)) (pss_one (ps_ret (pe_un un_neg pe_int))) pss_nil)
  (pss_one (ps_ret (pe_callTy call_uIntS (by rfl) n_int (by decide +kernel) (pa_cons (pv 0) pa_nil))))))

abbrev s__law_way_in_ : Stmt := topS 50
abbrev N__law_way_in : List Str := ["word"]
theorem sc__law_way_in : FnScope N__law_way_in ["word"] (defScope s__law_way_in_) := ⟨rfl, rfl, rfl, by decide +kernel, rfl, by decide +kernel, by decide +kernel⟩
def t__law_way_in_r1 (K : PySem.W.Frag) (s__law_number : Sp) : TS :=
  tRet (tGo s__law_number E0 (tCons (tVar 0) (tNil)))
def t__law_way_in (K : PySem.W.Frag) (s__law_number : Sp) : TS :=
  tSeq (tIfS (tTest (tOp (uEq K false) (tVar 0) (tC (.str "-")))) (tRet (tC .non)) (tNext)) (t__law_way_in_r1 K s__law_number)
theorem dv__law_way_in {P : Program} {w : World} {K : PySem.W.Frag} {mg : Str → Option Value} {b : Heap} {a : Addr} {d : FuncData} {sp : Sp} (F : Fn K mg "_law_way_in" s__law_way_in_ a d ["word"])
    {a__law_number : Addr} {d__law_number : FuncData} {s__law_number : Sp} (F__law_number : Fn K mg "_law_number" s__law_number_ a__law_number d__law_number ["word"]) (k__law_number : Keeps P w K mg b CX0 2 a__law_number d__law_number ["word"] s__law_number)
    (len : ∀ vs H Q E, sp vs H Q E → vs.length = 1)
    (rd : ∀ vs H Q E, sp vs H Q E → run (t__law_way_in K s__law_number) (start N__law_way_in vs) H Q) : Keeps P w K mg b CX0 3 a d ["word"] sp := by
  refine keeps0 F.fn sc__law_way_in len fun cdv A o s H vs Q E hr h => ⟨t__law_way_in K s__law_number, ?_, rd vs H Q E h⟩
  unfold t__law_way_in t__law_way_in_r1
  exact (pss_cons (ps_if (pt_cmpR (op_uEq hr.rm.units) (pv 0) pe_str (nomark _)) (pss_one (ps_ret pe_non)) pss_nil)
  (pss_one (ps_ret (pe_go k__law_number (hr.mono (by decide)) rfl F__law_number.g F__law_number.fn.kp F__law_number.b pass0 (pa_cons (pv 0) pa_nil)))))

abbrev s__law_can_stand_ : Stmt := topS 51
abbrev N__law_can_stand : List Str := ["there", "row", "places", "roads", "stands", "reach_words", "words", "count"]
theorem sc__law_can_stand : FnScope N__law_can_stand ["there", "row"] (defScope s__law_can_stand_) := ⟨rfl, rfl, rfl, by decide +kernel, rfl, by decide +kernel, by decide +kernel⟩
def t__law_can_stand_r1 (K : PySem.W.Frag) (s__law_is_name : Sp) (s__law_way_in : Sp) (s__law_is_road : Sp) (s__law_number : Sp) : TS :=
  tRet (tAndT K (tGo s__law_is_name E0 (tCons (tOp (uIx K) (tVar 6) (tC (.int 1))) (tNil))) (tOp (rI0 fun i j => .bl (decide (i < j))) (tCB (uLen K) (tCons (tVar 2) (tNil))) (tC (.int 11))))
def t__law_can_stand_r2 (K : PySem.W.Frag) (s__law_is_name : Sp) (s__law_way_in : Sp) (s__law_is_road : Sp) (s__law_number : Sp) : TS :=
  tRet (tGo s__law_is_road E0 (tCons (tVar 2) (tCons (tOp (uIx K) (tVar 3) (tUn (rU fun i => .int (-i)) (tC (.int 1)))) (tNil))))
def t__law_can_stand_r3 (K : PySem.W.Frag) (s__law_is_name : Sp) (s__law_way_in : Sp) (s__law_is_road : Sp) (s__law_number : Sp) : TS :=
  tRet (tOp (uIn K false) (tOp (uIx K) (tVar 6) (tC (.int 1))) (tVar 2))
def t__law_can_stand_r4 (K : PySem.W.Frag) (s__law_is_name : Sp) (s__law_way_in : Sp) (s__law_is_road : Sp) (s__law_number : Sp) : TS :=
  tRet (tC (.bl false))
def t__law_can_stand_r5 (K : PySem.W.Frag) (s__law_is_name : Sp) (s__law_way_in : Sp) (s__law_is_road : Sp) (s__law_number : Sp) : TS :=
  tSeq (tIfS (tAnd (tTest (tOp (uEq K false) (tOp (uIx K) (tVar 6) (tC (.int 0))) (tC (.str "reach")))) (tTest (tOp (uEq K false) (tVar 7) (tC (.int 2))))) (tSeq (tDrop (tBM K "list" uAppend (tVar 5) (tCons (tGo s__law_number E0 (tCons (tOp (uIx K) (tVar 6) (tC (.int 1))) (tNil))) (tNil)))) (tRet (tAndT K (tOp (uEq K true) (tVar 4) (tLstU (tNil))) (tAndT K (tOp (uEq K false) (tCB (uLen K) (tCons (tVar 5) (tNil))) (tC (.int 1))) (tChain (rI0 fun i j => .bl (decide (i ≤ j))) (rI0 fun i j => .bl (decide (i ≤ j))) (tC (.int 0)) (tOp (uIx K) (tVar 5) (tC (.int 0))) (tC (.int 120))))))) (tNext)) (t__law_can_stand_r4 K s__law_is_name s__law_way_in s__law_is_road s__law_number)
def t__law_can_stand_r6 (K : PySem.W.Frag) (s__law_is_name : Sp) (s__law_way_in : Sp) (s__law_is_road : Sp) (s__law_number : Sp) : TS :=
  tSeq (tIfS (tAnd (tTest (tOp (uEq K false) (tOp (uIx K) (tVar 6) (tC (.int 0))) (tC (.str "stand")))) (tTest (tOp (uEq K false) (tVar 7) (tC (.int 2))))) (tSeq (tDrop (tBM K "list" uAppend (tVar 4) (tCons (tOp (uIx K) (tVar 6) (tC (.int 1))) (tNil)))) (tSeq (tIfS (tOr (tTest (tOp (uEq K true) (tVar 5) (tLstU (tNil)))) (tOr (tTest (tOp (uIn K false) (tOp (uIx K) (tVar 6) (tC (.int 1))) (tSl (uSl K) (tVar 4) (tNoPart) (tPart (tUn (rU fun i => .int (-i)) (tC (.int 1))))))) (tTest (tOp (rI0 fun i j => .bl (decide (j < i))) (tCB (uLen K) (tCons (tVar 4) (tNil))) (tC (.int 5)))))) (tRet (tC (.bl false))) (tNext)) (t__law_can_stand_r3 K s__law_is_name s__law_way_in s__law_is_road s__law_number))) (tNext)) (t__law_can_stand_r5 K s__law_is_name s__law_way_in s__law_is_road s__law_number)
def t__law_can_stand_r7 (K : PySem.W.Frag) (s__law_is_name : Sp) (s__law_way_in : Sp) (s__law_is_road : Sp) (s__law_number : Sp) : TS :=
  tSeq (tIfS (tAnd (tTest (tOp (uEq K false) (tOp (uIx K) (tVar 6) (tC (.int 0))) (tC (.str "road")))) (tTest (tOp (uEq K false) (tVar 7) (tC (.int 5))))) (tSeq (tDrop (tBM K "list" uAppend (tVar 3) (tCons (tTupU (tCons (tOp (uIx K) (tVar 6) (tC (.int 1))) (tCons (tOp (uIx K) (tVar 6) (tC (.int 2))) (tCons (tGo s__law_way_in E0 (tCons (tOp (uIx K) (tVar 6) (tC (.int 3))) (tNil))) (tCons (tGo s__law_way_in E0 (tCons (tOp (uIx K) (tVar 6) (tC (.int 4))) (tNil))) (tNil)))))) (tNil)))) (tSeq (tIfS (tOr (tTest (tOp (uEq K true) (tOp (uAdd K) (tVar 4) (tVar 5)) (tLstU (tNil)))) (tTest (tOp (rI0 fun i j => .bl (decide (j < i))) (tCB (uLen K) (tCons (tVar 3) (tNil))) (tC (.int 18))))) (tRet (tC (.bl false))) (tNext)) (t__law_can_stand_r2 K s__law_is_name s__law_way_in s__law_is_road s__law_number))) (tNext)) (t__law_can_stand_r6 K s__law_is_name s__law_way_in s__law_is_road s__law_number)
def t__law_can_stand (K : PySem.W.Frag) (s__law_is_name : Sp) (s__law_way_in : Sp) (s__law_is_road : Sp) (s__law_number : Sp) : TS :=
  tSeq (tAsg (tVar 0) (gUnl K 4 (gCons (gName 2) (gCons (gName 3) (gCons (gName 4) (gCons (gName 5) (gNil))))))) (tSeq (tAsg (tM1 uSplit (tVar 1) (tC (.str " "))) (gName 6)) (tSeq (tAsg (tCB (uLen K) (tCons (tVar 6) (tNil))) (gName 7)) (tSeq (tIfS (tAnd (tTest (tOp (uEq K false) (tOp (uIx K) (tVar 6) (tC (.int 0))) (tC (.str "place")))) (tTest (tOp (uEq K false) (tVar 7) (tC (.int 2))))) (tSeq (tDrop (tBM K "list" uAppend (tVar 2) (tCons (tOp (uIx K) (tVar 6) (tC (.int 1))) (tNil)))) (tSeq (tIfS (tOr (tTest (tOp (uEq K true) (tOp (uAdd K) (tOp (uAdd K) (tVar 3) (tVar 4)) (tVar 5)) (tLstU (tNil)))) (tTest (tOp (uIn K false) (tOp (uIx K) (tVar 6) (tC (.int 1))) (tSl (uSl K) (tVar 2) (tNoPart) (tPart (tUn (rU fun i => .int (-i)) (tC (.int 1)))))))) (tRet (tC (.bl false))) (tNext)) (t__law_can_stand_r1 K s__law_is_name s__law_way_in s__law_is_road s__law_number))) (tNext)) (t__law_can_stand_r7 K s__law_is_name s__law_way_in s__law_is_road s__law_number))))
theorem dv__law_can_stand {P : Program} {w : World} {K : PySem.W.Frag} {mg : Str → Option Value} {b : Heap} {a : Addr} {d : FuncData} {sp : Sp} (F : Fn K mg "_law_can_stand" s__law_can_stand_ a d ["there", "row"])
    (n_len : mg "len" = none)
    {a__law_is_name : Addr} {d__law_is_name : FuncData} {s__law_is_name : Sp} (F__law_is_name : Fn K mg "_law_is_name" s__law_is_name_ a__law_is_name d__law_is_name ["thing"]) (k__law_is_name : Keeps P w K mg b CX0 2 a__law_is_name d__law_is_name ["thing"] s__law_is_name)
    {a__law_way_in : Addr} {d__law_way_in : FuncData} {s__law_way_in : Sp} (F__law_way_in : Fn K mg "_law_way_in" s__law_way_in_ a__law_way_in d__law_way_in ["word"]) (k__law_way_in : Keeps P w K mg b CX0 3 a__law_way_in d__law_way_in ["word"] s__law_way_in)
    {a__law_is_road : Addr} {d__law_is_road : FuncData} {s__law_is_road : Sp} (F__law_is_road : Fn K mg "_law_is_road" s__law_is_road_ a__law_is_road d__law_is_road ["places", "thing"]) (k__law_is_road : Keeps P w K mg b CX0 4 a__law_is_road d__law_is_road ["places", "thing"] s__law_is_road)
    {a__law_number : Addr} {d__law_number : FuncData} {s__law_number : Sp} (F__law_number : Fn K mg "_law_number" s__law_number_ a__law_number d__law_number ["word"]) (k__law_number : Keeps P w K mg b CX0 2 a__law_number d__law_number ["word"] s__law_number)
    (len : ∀ vs H Q E, sp vs H Q E → vs.length = 2)
    (rd : ∀ vs H Q E, sp vs H Q E → run (t__law_can_stand K s__law_is_name s__law_way_in s__law_is_road s__law_number) (start N__law_can_stand vs) H Q) : Keeps P w K mg b CX0 5 a d ["there", "row"] sp := by
  refine keeps0 F.fn sc__law_can_stand len fun cdv A o s H vs Q E hr h => ⟨t__law_can_stand K s__law_is_name s__law_way_in s__law_is_road s__law_number, ?_, rd vs H Q E h⟩
  unfold t__law_can_stand t__law_can_stand_r7 t__law_can_stand_r6 t__law_can_stand_r5 t__law_can_stand_r4 t__law_can_stand_r3 t__law_can_stand_r2 t__law_can_stand_r1
  exact (pss_cons (ps_asg (pv 0) (pg_unl rfl (pgs_cons (pg_name (i := 2) sc__law_can_stand.nd rfl (.inl rfl)) (pgs_cons (pg_name (i := 3) sc__law_can_stand.nd rfl (.inl rfl)) (pgs_cons (pg_name (i := 4) sc__law_can_stand.nd rfl (.inl rfl)) (pgs_cons (pg_name (i := 5) sc__law_can_stand.nd rfl (.inl rfl)) pgs_nil))))))
  (pss_cons (ps_set (i := 6) sc__law_can_stand.nd rfl (.inl rfl) (pe_uSplit (pv 1) pe_str))
  (pss_cons (ps_set (i := 7) sc__law_can_stand.nd rfl (.inl rfl) (pe_callB call_uLen (by rfl) n_len (by decide +kernel) (pa_cons (pv 6) pa_nil)))
  (pss_cons (ps_if (PW.pt (pw_and (pt_cmpR (op_uEq hr.rm.units) (pe_ix ix_u (pv 6) pe_int (fun _ _ => rfl)) pe_str (nomark _)) (pw_and1 (pt_cmpR (op_uEq hr.rm.units) (pv 7) pe_int (nomark _))))) (pss_cons (ps_expr (pe_bm PySem.F.plainAttrs_list PySem.F.slot_list_append PySem.F.type_list_append mt_uAppend (pv 2) (pa_cons (pe_ix ix_u (pv 6) pe_int (fun _ _ => rfl)) pa_nil)))
  (pss_cons (ps_if (PW.pt (pw_or (pt_cmpR (op_uNe hr.rm.units) (pe_op op_uAdd (pe_op op_uAdd (pv 3) (pv 4)) (pv 5)) (pe_lstU pa_nil) (nomark _)) (pw_or1 (pt_cmpR op_uIn (pe_ix ix_u (pv 6) pe_int (fun _ _ => rfl)) (pe_slice sl_u (pv 2) po_none (po_some (pe_un un_neg pe_int))) rfl)))) (pss_one (ps_ret pe_bl)) pss_nil)
  (pss_one (ps_ret (pe_andT (pe_go k__law_is_name (hr.mono (by decide)) rfl F__law_is_name.g F__law_is_name.fn.kp F__law_is_name.b pass0 (pa_cons (pe_ix ix_u (pv 6) pe_int (fun _ _ => rfl)) pa_nil)) (pe_one (pe_cmpR op_lt (pe_callB call_uLen (by rfl) n_len (by decide +kernel) (pa_cons (pv 2) pa_nil)) pe_int (nomark _)))))))) pss_nil)
  (pss_cons (ps_if (PW.pt (pw_and (pt_cmpR (op_uEq hr.rm.units) (pe_ix ix_u (pv 6) pe_int (fun _ _ => rfl)) pe_str (nomark _)) (pw_and1 (pt_cmpR (op_uEq hr.rm.units) (pv 7) pe_int (nomark _))))) (pss_cons (ps_expr (pe_bm PySem.F.plainAttrs_list PySem.F.slot_list_append PySem.F.type_list_append mt_uAppend (pv 3) (pa_cons (pe_tupU (pa_cons (pe_ix ix_u (pv 6) pe_int (fun _ _ => rfl)) (pa_cons (pe_ix ix_u (pv 6) pe_int (fun _ _ => rfl)) (pa_cons (pe_go k__law_way_in (hr.mono (by decide)) rfl F__law_way_in.g F__law_way_in.fn.kp F__law_way_in.b pass0 (pa_cons (pe_ix ix_u (pv 6) pe_int (fun _ _ => rfl)) pa_nil)) (pa_cons (pe_go k__law_way_in (hr.mono (by decide)) rfl F__law_way_in.g F__law_way_in.fn.kp F__law_way_in.b pass0 (pa_cons (pe_ix ix_u (pv 6) pe_int (fun _ _ => rfl)) pa_nil)) pa_nil))))) pa_nil)))
  (pss_cons (ps_if (PW.pt (pw_or (pt_cmpR (op_uNe hr.rm.units) (pe_op op_uAdd (pv 4) (pv 5)) (pe_lstU pa_nil) (nomark _)) (pw_or1 (pt_cmpR op_gt (pe_callB call_uLen (by rfl) n_len (by decide +kernel) (pa_cons (pv 3) pa_nil)) pe_int (nomark _))))) (pss_one (ps_ret pe_bl)) pss_nil)
  (pss_one (ps_ret (pe_go k__law_is_road (hr.mono (by decide)) rfl F__law_is_road.g F__law_is_road.fn.kp F__law_is_road.b pass0 (pa_cons (pv 2) (pa_cons (pe_ix ix_u (pv 3) (pe_un un_neg pe_int) (fun _ _ => rfl)) pa_nil))))))) pss_nil)
  (pss_cons (ps_if (PW.pt (pw_and (pt_cmpR (op_uEq hr.rm.units) (pe_ix ix_u (pv 6) pe_int (fun _ _ => rfl)) pe_str (nomark _)) (pw_and1 (pt_cmpR (op_uEq hr.rm.units) (pv 7) pe_int (nomark _))))) (pss_cons (ps_expr (pe_bm PySem.F.plainAttrs_list PySem.F.slot_list_append PySem.F.type_list_append mt_uAppend (pv 4) (pa_cons (pe_ix ix_u (pv 6) pe_int (fun _ _ => rfl)) pa_nil)))
  (pss_cons (ps_if (PW.pt (pw_or (pt_cmpR (op_uNe hr.rm.units) (pv 5) (pe_lstU pa_nil) (nomark _)) (pw_or (pt_cmpR op_uIn (pe_ix ix_u (pv 6) pe_int (fun _ _ => rfl)) (pe_slice sl_u (pv 4) po_none (po_some (pe_un un_neg pe_int))) rfl) (pw_or1 (pt_cmpR op_gt (pe_callB call_uLen (by rfl) n_len (by decide +kernel) (pa_cons (pv 4) pa_nil)) pe_int (nomark _)))))) (pss_one (ps_ret pe_bl)) pss_nil)
  (pss_one (ps_ret (pe_cmpR op_uIn (pe_ix ix_u (pv 6) pe_int (fun _ _ => rfl)) (pv 2) rfl))))) pss_nil)
  (pss_cons (ps_if (PW.pt (pw_and (pt_cmpR (op_uEq hr.rm.units) (pe_ix ix_u (pv 6) pe_int (fun _ _ => rfl)) pe_str (nomark _)) (pw_and1 (pt_cmpR (op_uEq hr.rm.units) (pv 7) pe_int (nomark _))))) (pss_cons (ps_expr (pe_bm PySem.F.plainAttrs_list PySem.F.slot_list_append PySem.F.type_list_append mt_uAppend (pv 5) (pa_cons (pe_go k__law_number (hr.mono (by decide)) rfl F__law_number.g F__law_number.fn.kp F__law_number.b pass0 (pa_cons (pe_ix ix_u (pv 6) pe_int (fun _ _ => rfl)) pa_nil)) pa_nil)))
  (pss_one (ps_ret (pe_andT (pe_cmpR (op_uNe hr.rm.units) (pv 4) (pe_lstU pa_nil) (nomark _)) (pe_andT (pe_cmpR (op_uEq hr.rm.units) (pe_callB call_uLen (by rfl) n_len (by decide +kernel) (pa_cons (pv 5) pa_nil)) pe_int (nomark _)) (pe_one (pe_chain op_le op_le pe_int (pe_ix ix_u (pv 5) pe_int (fun _ _ => rfl)) pe_int))))))) pss_nil)
  (pss_one (ps_ret pe_bl)))))))))

abbrev s__law_read_ : Stmt := topS 52
abbrev N__law_read : List Str := ["thing", "there", "rows", "number", "row", "places", "roads", "stands", "reach_words"]
theorem sc__law_read : FnScope N__law_read ["thing"] (defScope s__law_read_) := ⟨rfl, rfl, rfl, by decide +kernel, rfl, by decide +kernel, by decide +kernel⟩
def t__law_read_b1 (K : PySem.W.Frag) (s__law_can_stand : Sp) : TS :=
  tIfS (tNot (tTru K (tGo s__law_can_stand E0 (tCons (tVar 1) (tCons (tVar 4) (tNil)))))) (tRet (tLstU (tCons (tC (.str "row")) (tCons (tVar 3) (tNil))))) (tNext)
def t__law_read_r1 (K : PySem.W.Frag) (s__law_can_stand : Sp) : TS :=
  tRet (tLstU (tCons (tC (.str "town")) (tCons (tTupU (tCons (tCB (uTuple K) (tCons (tVar 5) (tNil))) (tCons (tCB (uTuple K) (tCons (tVar 6) (tNil))) (tCons (tCB (uTuple K) (tCons (tVar 7) (tNil))) (tCons (tOp (uIx K) (tVar 8) (tC (.int 0))) (tNil)))))) (tNil))))
def t__law_read_r2 (K : PySem.W.Frag) (s__law_can_stand : Sp) : TS :=
  tSeq (tAsg (tVar 1) (gUnl K 4 (gCons (gName 5) (gCons (gName 6) (gCons (gName 7) (gCons (gName 8) (gNil))))))) (tSeq (tIfS (tTest (tOp (uEq K false) (tVar 8) (tLstU (tNil)))) (tRet (tLstU (tCons (tC (.str "row")) (tCons (tCB (uLen K) (tCons (tVar 2) (tNil))) (tNil))))) (tNext)) (t__law_read_r1 K s__law_can_stand))
def t__law_read_r3 (K : PySem.W.Frag) (s__law_can_stand : Sp) : TS :=
  tSeq (tAsg (tLstU (tCons (tLstU (tNil)) (tCons (tLstU (tNil)) (tCons (tLstU (tNil)) (tCons (tLstU (tNil)) (tNil)))))) (gName 1)) (tSeq (tAsg (tM1 uSplit (tVar 0) (tC (.str "\n"))) (gName 2)) (tSeq (tFor (iEnum K (tCons (tVar 2) (tNil))) (gTup K 2 (gCons (gName 3) (gCons (gName 4) (gNil)))) (t__law_read_b1 K s__law_can_stand)) (t__law_read_r2 K s__law_can_stand)))
def t__law_read (K : PySem.W.Frag) (s__law_can_stand : Sp) : TS :=
  tSeq (tIfS (tNot (tTru K (tCB (rIsi K) (tCons (tVar 0) (tCons (tC (.ty "str")) (tNil)))))) (tRet (tLstU (tCons (tC (.str "row")) (tCons (tC (.int 0)) (tNil))))) (tNext)) (t__law_read_r3 K s__law_can_stand)
theorem dv__law_read {P : Program} {w : World} {K : PySem.W.Frag} {mg : Str → Option Value} {b : Heap} {a : Addr} {d : FuncData} {sp : Sp} (F : Fn K mg "_law_read" s__law_read_ a d ["thing"])
    (n_isinstance : mg "isinstance" = none)
    (n_str : mg "str" = none)
    (n_enumerate : mg "enumerate" = none)
    {a__law_can_stand : Addr} {d__law_can_stand : FuncData} {s__law_can_stand : Sp} (F__law_can_stand : Fn K mg "_law_can_stand" s__law_can_stand_ a__law_can_stand d__law_can_stand ["there", "row"]) (k__law_can_stand : Keeps P w K mg b CX0 5 a__law_can_stand d__law_can_stand ["there", "row"] s__law_can_stand)
    (n_len : mg "len" = none)
    (n_tuple : mg "tuple" = none)
    (len : ∀ vs H Q E, sp vs H Q E → vs.length = 1)
    (rd : ∀ vs H Q E, sp vs H Q E → run (t__law_read K s__law_can_stand) (start N__law_read vs) H Q) : Keeps P w K mg b CX0 6 a d ["thing"] sp := by
  refine keeps0 F.fn sc__law_read len fun cdv A o s H vs Q E hr h => ⟨t__law_read K s__law_can_stand, ?_, rd vs H Q E h⟩
  unfold t__law_read t__law_read_r3 t__law_read_r2 t__law_read_r1 t__law_read_b1
  exact (pss_cons (ps_if (pt_not (pt_tru (pe_callB call_isi (by rfl) n_isinstance (by decide +kernel) (pa_cons (pv 0) (pa_cons (pe_bltn (v := .ty "str") (by rfl) n_str (by decide +kernel) rfl) pa_nil))))) (pss_one (ps_ret (pe_lstU (pa_cons pe_str (pa_cons pe_int pa_nil))))) pss_nil)
  (pss_cons (ps_set (i := 1) sc__law_read.nd rfl (.inl rfl) (pe_lstU (pa_cons (pe_lstU pa_nil) (pa_cons (pe_lstU pa_nil) (pa_cons (pe_lstU pa_nil) (pa_cons (pe_lstU pa_nil) pa_nil))))))
  (pss_cons (ps_set (i := 2) sc__law_read.nd rfl (.inl rfl) (pe_uSplit (pv 0) pe_str))
  (pss_cons (ps_for PassesOwn.never rfl (pi_enum (by rfl) n_enumerate (pa_cons (pv 2) pa_nil)) (pg_tup rfl (pgs_cons (pg_name (i := 3) sc__law_read.nd rfl (.inl rfl)) (pgs_cons (pg_name (i := 4) sc__law_read.nd rfl (.inl rfl)) pgs_nil))) (pss_one (ps_if (pt_not (pt_tru (pe_go k__law_can_stand (hr.mono (by decide)) rfl F__law_can_stand.g F__law_can_stand.fn.kp F__law_can_stand.b pass0 (pa_cons (pv 1) (pa_cons (pv 4) pa_nil))))) (pss_one (ps_ret (pe_lstU (pa_cons pe_str (pa_cons (pv 3) pa_nil))))) pss_nil)))
  (pss_cons (ps_asg (pv 1) (pg_unl rfl (pgs_cons (pg_name (i := 5) sc__law_read.nd rfl (.inl rfl)) (pgs_cons (pg_name (i := 6) sc__law_read.nd rfl (.inl rfl)) (pgs_cons (pg_name (i := 7) sc__law_read.nd rfl (.inl rfl)) (pgs_cons (pg_name (i := 8) sc__law_read.nd rfl (.inl rfl)) pgs_nil))))))
  (pss_cons (ps_if (pt_cmpR (op_uEq hr.rm.units) (pv 8) (pe_lstU pa_nil) (nomark _)) (pss_one (ps_ret (pe_lstU (pa_cons pe_str (pa_cons (pe_callB call_uLen (by rfl) n_len (by decide +kernel) (pa_cons (pv 2) pa_nil)) pa_nil))))) pss_nil)
  (pss_one (ps_ret (pe_lstU (pa_cons pe_str (pa_cons (pe_tupU (pa_cons (pe_callTy call_uTuple (by rfl) n_tuple (by decide +kernel) (pa_cons (pv 5) pa_nil)) (pa_cons (pe_callTy call_uTuple (by rfl) n_tuple (by decide +kernel) (pa_cons (pv 6) pa_nil)) (pa_cons (pe_callTy call_uTuple (by rfl) n_tuple (by decide +kernel) (pa_cons (pv 7) pa_nil)) (pa_cons (pe_ix ix_u (pv 8) pe_int (fun _ _ => rfl)) pa_nil))))) pa_nil)))))))))))

abbrev s__law_told_ : Stmt := topS 53
abbrev N__law_told : List Str := ["thing", "caught", "found", "e"]
theorem sc__law_told : FnScope N__law_told ["thing"] (defScope s__law_told_) := ⟨rfl, rfl, rfl, by decide +kernel, rfl, by decide +kernel, by decide +kernel⟩
def t__law_told_r1 (K : PySem.W.Frag) (s_town_by : Sp) (s__law_marks : Sp) (c_NoText : Addr) : TS :=
  tRet (tLstU (tCons (tC (.str "row")) (tCons (tXfV K "row" (tVar 1)) (tNil))))
def t__law_told_r2 (K : PySem.W.Frag) (s_town_by : Sp) (s__law_marks : Sp) (c_NoText : Addr) : TS :=
  tSeq (tIfS (tTest (tOp (uEq K true) (tGo s__law_marks E0 (tCons (tVar 1) (tNil))) (tLstU (tCons (tC (.bl true)) (tCons (tC (.bl true)) (tCons (tC (.bl true)) (tCons (tC (.bl false)) (tCons (tC (.bl false)) (tNil))))))))) (tRet (tLstU (tCons (tC (.str "another")) (tNil)))) (tNext)) (t__law_told_r1 K s_town_by s__law_marks c_NoText)
def t__law_told_r3 (K : PySem.W.Frag) (s_town_by : Sp) (s__law_marks : Sp) (c_NoText : Addr) : TS :=
  tSeq (tIfS (tTest (tOp rIsN (tVar 1) (tC .non))) (tRet (tLstU (tCons (tC (.str "town")) (tCons (tVar 2) (tNil))))) (tNext)) (t__law_told_r2 K s_town_by s__law_marks c_NoText)
def t__law_told (K : PySem.W.Frag) (s_town_by : Sp) (s__law_marks : Sp) (c_NoText : Addr) : TS :=
  tSeq (tAsg (tC .non) (gName 1)) (tSeq (tAsg (tC .non) (gName 2)) (tSeq (tTryKp K c_NoText 3 (fun W => tAsg (tGoS s_town_by (WE W) (tCons (tVar 0) (tNil))) (gName 2)) (fun a cls d => tAsg (tVar 3) (gName 1))) (t__law_told_r3 K s_town_by s__law_marks c_NoText)))
theorem dv__law_told {P : Program} {w : World} {K : PySem.W.Frag} {mg : Str → Option Value} {b : Heap} {a : Addr} {d : FuncData} {sp : Sp} (F : Fn K mg "_law_told" s__law_told_ a d ["thing"])
    {c_NoText : Addr}
    (g_NoText : mg "NoText" = some (.ref c_NoText))
    {a_town_by : Addr} {d_town_by : FuncData} {s_town_by : Sp} (F_town_by : Fn K mg "town_by" s_town_by_ a_town_by d_town_by ["text"]) (k_town_by : Keeps P w K mg b (L2.CX P w) 8 a_town_by d_town_by ["text"] s_town_by)
    {a__law_marks : Addr} {d__law_marks : FuncData} {s__law_marks : Sp} (F__law_marks : Fn K mg "_law_marks" s__law_marks_ a__law_marks d__law_marks ["error"]) (k__law_marks : Keeps P w K mg b CX0 2 a__law_marks d__law_marks ["error"] s__law_marks)
    (len : ∀ vs H Q E, sp vs H Q E → vs.length = 1)
    (rd : ∀ vs H Q E, sp vs H Q E → run (t__law_told K s_town_by s__law_marks c_NoText) (start N__law_told vs) H Q) : Keeps P w K mg b CX0 9 a d ["thing"] sp := by
  refine keeps0 F.fn sc__law_told len fun cdv A o s H vs Q E hr h => ⟨t__law_told K s_town_by s__law_marks c_NoText, ?_, rd vs H Q E h⟩
  unfold t__law_told t__law_told_r3 t__law_told_r2 t__law_told_r1
  exact (pss_cons (ps_set (i := 1) sc__law_told.nd rfl (.inl rfl) pe_non)
  (pss_cons (ps_set (i := 2) sc__law_told.nd rfl (.inl rfl) pe_non)
  (pss_cons (ps_try_kp (i := 3) rfl rfl sc__law_told.nd rfl rfl ⟨by rfl, by decide, .inl g_NoText⟩ rfl takes0 (fun W pn xe tk _ => (pss_one (ps_set (i := 2) sc__law_told.nd rfl (.inl rfl) (pe_goS k_town_by (hr.mono (by decide)) (by rfl) F_town_by.g F_town_by.fn.kp F_town_by.b (fun σ => passAt tk σ) (pa_cons (pv 0) pa_nil))))) (fun a oe cls d pn hz hf => (pss_one (ps_set (i := 1) sc__law_told.nd rfl (.inl rfl) (pv 3)))))
  (pss_cons (ps_if (pt_cmpR op_isN (pv 1) pe_non (nomark _)) (pss_one (ps_ret (pe_lstU (pa_cons pe_str (pa_cons (pv 2) pa_nil))))) pss_nil)
  (pss_cons (ps_if (pt_cmpR (op_uNe hr.rm.units) (pe_go k__law_marks (hr.mono (by decide)) rfl F__law_marks.g F__law_marks.fn.kp F__law_marks.b pass0 (pa_cons (pv 1) pa_nil)) (pe_lstU (pa_cons pe_bl (pa_cons pe_bl (pa_cons pe_bl (pa_cons pe_bl (pa_cons pe_bl pa_nil)))))) (nomark _)) (pss_one (ps_ret (pe_lstU (pa_cons pe_str pa_nil)))) pss_nil)
  (pss_one (ps_ret (pe_lstU (pa_cons pe_str (pa_cons (pe_xfV (pv 1)) pa_nil))))))))))

abbrev s__law_minutes_word_ : Stmt := topS 54
abbrev N__law_minutes_word : List Str := ["pen", "wrong", "words"]
theorem sc__law_minutes_word : FnScope N__law_minutes_word ["pen", "wrong"] (defScope s__law_minutes_word_) := ⟨rfl, rfl, rfl, by decide +kernel, rfl, by decide +kernel, by decide +kernel⟩
def t__law_minutes_word (K : PySem.W.Frag) (s__law_draw : Sp) : TS :=
  tSeq (tAsg (tLstU (tCons (tC (.str "1")) (tCons (tC (.str "60")) (tCons (tC (.str "-")) (tCons (tCB (uStr) (tCons (tOp (uAdd K) (tC (.int 1)) (tGo s__law_draw E0 (tCons (tVar 0) (tCons (tC (.int 60)) (tNil))))) (tNil))) (tCons (tC (.str "0")) (tCons (tC (.str "61")) (tCons (tC (.str "07")) (tNil))))))))) (gName 2)) (tRet (tOp (uIx K) (tVar 2) (tGo s__law_draw E0 (tCons (tVar 0) (tCons (tOp (uAdd K) (tC (.int 4)) (tOp uMul (tC (.int 3)) (tVar 1))) (tNil))))))
theorem dv__law_minutes_word {P : Program} {w : World} {K : PySem.W.Frag} {mg : Str → Option Value} {b : Heap} {a : Addr} {d : FuncData} {sp : Sp} (F : Fn K mg "_law_minutes_word" s__law_minutes_word_ a d ["pen", "wrong"])
    (n_str : mg "str" = none)
    {a__law_draw : Addr} {d__law_draw : FuncData} {s__law_draw : Sp} (F__law_draw : Fn K mg "_law_draw" s__law_draw_ a__law_draw d__law_draw ["pen", "base"]) (k__law_draw : Keeps P w K mg b CX0 2 a__law_draw d__law_draw ["pen", "base"] s__law_draw)
    (len : ∀ vs H Q E, sp vs H Q E → vs.length = 2)
    (rd : ∀ vs H Q E, sp vs H Q E → run (t__law_minutes_word K s__law_draw) (start N__law_minutes_word vs) H Q) : Keeps P w K mg b CX0 3 a d ["pen", "wrong"] sp := by
  refine keeps0 F.fn sc__law_minutes_word len fun cdv A o s H vs Q E hr h => ⟨t__law_minutes_word K s__law_draw, ?_, rd vs H Q E h⟩
  unfold t__law_minutes_word 
  exact (pss_cons (ps_set (i := 2) sc__law_minutes_word.nd rfl (.inl rfl) (pe_lstU (pa_cons pe_str (pa_cons pe_str (pa_cons pe_str (pa_cons (pe_callTy call_uStr (by rfl) n_str (by decide +kernel) (pa_cons (pe_op op_uAdd pe_int (pe_go k__law_draw (hr.mono (by decide)) rfl F__law_draw.g F__law_draw.fn.kp F__law_draw.b pass0 (pa_cons (pv 0) (pa_cons pe_int pa_nil)))) pa_nil)) (pa_cons pe_str (pa_cons pe_str (pa_cons pe_str pa_nil)))))))))
  (pss_one (ps_ret (pe_ix ix_u (pv 2) (pe_go k__law_draw (hr.mono (by decide)) rfl F__law_draw.g F__law_draw.fn.kp F__law_draw.b pass0 (pa_cons (pv 0) (pa_cons (pe_op op_uAdd pe_int (pe_op op_uMul pe_int (pv 1))) pa_nil))) (fun _ _ => rfl)))))

abbrev s__law_road_row_ : Stmt := topS 55
abbrev N__law_road_row : List Str := ["pen", "names", "wrong", "one", "other", "words"]
theorem sc__law_road_row : FnScope N__law_road_row ["pen", "names", "wrong"] (defScope s__law_road_row_) := ⟨rfl, rfl, rfl, by decide +kernel, rfl, by decide +kernel, by decide +kernel⟩
def t__law_road_row_r1 (K : PySem.W.Frag) (s__law_draw : Sp) (s__law_minutes_word : Sp) : TS :=
  tRet (tM1 (uJoin K) (tC (.str " ")) (tOp (uAdd K) (tVar 5) (tLstU (tCons (tGo s__law_minutes_word E0 (tCons (tVar 0) (tCons (tVar 2) (tNil)))) (tNil)))))
def t__law_road_row_r2 (K : PySem.W.Frag) (s__law_draw : Sp) (s__law_minutes_word : Sp) : TS :=
  tSeq (tAsg (tLstU (tCons (tC (.str "road")) (tCons (tOp (uIx K) (tVar 1) (tVar 3)) (tCons (tOp (uIx K) (tVar 1) (tVar 4)) (tCons (tGo s__law_minutes_word E0 (tCons (tVar 0) (tCons (tVar 2) (tNil)))) (tNil)))))) (gName 5)) (tSeq (tIfS (tAnd (tTest (tOp (uEq K false) (tOp (uIx K) (tVar 5) (tC (.int 3))) (tC (.str "-")))) (tTest (tOp (uEq K false) (tVar 2) (tC (.int 0))))) (tRet (tM1 (uJoin K) (tC (.str " ")) (tOp (uAdd K) (tVar 5) (tLstU (tCons (tC (.str "1")) (tNil)))))) (tNext)) (t__law_road_row_r1 K s__law_draw s__law_minutes_word))
def t__law_road_row (K : PySem.W.Frag) (s__law_draw : Sp) (s__law_minutes_word : Sp) : TS :=
  tSeq (tAsg (tGo s__law_draw E0 (tCons (tVar 0) (tCons (tCB (uLen K) (tCons (tVar 1) (tNil))) (tNil)))) (gName 3)) (tSeq (tAsg (tOp (rI (fun _ j => 0 < j) fun i j => .int (i % j)) (tOp (uAdd K) (tOp (uAdd K) (tVar 3) (tC (.int 1))) (tGo s__law_draw E0 (tCons (tVar 0) (tCons (tCB uMax2 (tCons (tC (.int 1)) (tCons (tOp (rI0 fun i j => .int (i - j)) (tCB (uLen K) (tCons (tVar 1) (tNil))) (tC (.int 1))) (tNil)))) (tNil))))) (tCB (uLen K) (tCons (tVar 1) (tNil)))) (gName 4)) (tSeq (tIfS (tAnd (tTest (tOp (rI0 fun i j => .bl (decide (j < i))) (tVar 2) (tC (.int 0)))) (tTest (tOp (uEq K false) (tGo s__law_draw E0 (tCons (tVar 0) (tCons (tC (.int 3)) (tNil)))) (tC (.int 0))))) (tAsg (tVar 3) (gName 4)) (tNext)) (t__law_road_row_r2 K s__law_draw s__law_minutes_word)))
theorem dv__law_road_row {P : Program} {w : World} {K : PySem.W.Frag} {mg : Str → Option Value} {b : Heap} {a : Addr} {d : FuncData} {sp : Sp} (F : Fn K mg "_law_road_row" s__law_road_row_ a d ["pen", "names", "wrong"])
    {a__law_draw : Addr} {d__law_draw : FuncData} {s__law_draw : Sp} (F__law_draw : Fn K mg "_law_draw" s__law_draw_ a__law_draw d__law_draw ["pen", "base"]) (k__law_draw : Keeps P w K mg b CX0 2 a__law_draw d__law_draw ["pen", "base"] s__law_draw)
    (n_len : mg "len" = none)
    (n_max : mg "max" = none)
    {a__law_minutes_word : Addr} {d__law_minutes_word : FuncData} {s__law_minutes_word : Sp} (F__law_minutes_word : Fn K mg "_law_minutes_word" s__law_minutes_word_ a__law_minutes_word d__law_minutes_word ["pen", "wrong"]) (k__law_minutes_word : Keeps P w K mg b CX0 3 a__law_minutes_word d__law_minutes_word ["pen", "wrong"] s__law_minutes_word)
    (len : ∀ vs H Q E, sp vs H Q E → vs.length = 3)
    (rd : ∀ vs H Q E, sp vs H Q E → run (t__law_road_row K s__law_draw s__law_minutes_word) (start N__law_road_row vs) H Q) : Keeps P w K mg b CX0 4 a d ["pen", "names", "wrong"] sp := by
  refine keeps0 F.fn sc__law_road_row len fun cdv A o s H vs Q E hr h => ⟨t__law_road_row K s__law_draw s__law_minutes_word, ?_, rd vs H Q E h⟩
  unfold t__law_road_row t__law_road_row_r2 t__law_road_row_r1
  exact (pss_cons (ps_set (i := 3) sc__law_road_row.nd rfl (.inl rfl) (pe_go k__law_draw (hr.mono (by decide)) rfl F__law_draw.g F__law_draw.fn.kp F__law_draw.b pass0 (pa_cons (pv 0) (pa_cons (pe_callB call_uLen (by rfl) n_len (by decide +kernel) (pa_cons (pv 1) pa_nil)) pa_nil))))
  (pss_cons (ps_set (i := 4) sc__law_road_row.nd rfl (.inl rfl) (pe_op op_mod (pe_op op_uAdd (pe_op op_uAdd (pv 3) pe_int) (pe_go k__law_draw (hr.mono (by decide)) rfl F__law_draw.g F__law_draw.fn.kp F__law_draw.b pass0 (pa_cons (pv 0) (pa_cons (pe_callB (call_uMax2 rfl) (by rfl) n_max (by decide +kernel) (pa_cons pe_int (pa_cons (pe_op op_sub (pe_callB call_uLen (by rfl) n_len (by decide +kernel) (pa_cons (pv 1) pa_nil)) pe_int) pa_nil))) pa_nil)))) (pe_callB call_uLen (by rfl) n_len (by decide +kernel) (pa_cons (pv 1) pa_nil))))
  (pss_cons (ps_if (PW.pt (pw_and (pt_cmpR op_gt (pv 2) pe_int (nomark _)) (pw_and1 (pt_cmpR (op_uEq hr.rm.units) (pe_go k__law_draw (hr.mono (by decide)) rfl F__law_draw.g F__law_draw.fn.kp F__law_draw.b pass0 (pa_cons (pv 0) (pa_cons pe_int pa_nil))) pe_int (nomark _))))) (pss_one (ps_set (i := 4) sc__law_road_row.nd rfl (.inl rfl) (pv 3))) pss_nil)
  (pss_cons (ps_set (i := 5) sc__law_road_row.nd rfl (.inl rfl) (pe_lstU (pa_cons pe_str (pa_cons (pe_ix ix_u (pv 1) (pv 3) (fun _ _ => rfl)) (pa_cons (pe_ix ix_u (pv 1) (pv 4) (fun _ _ => rfl)) (pa_cons (pe_go k__law_minutes_word (hr.mono (by decide)) rfl F__law_minutes_word.g F__law_minutes_word.fn.kp F__law_minutes_word.b pass0 (pa_cons (pv 0) (pa_cons (pv 2) pa_nil))) pa_nil))))))
  (pss_cons (ps_if (PW.pt (pw_and (pt_cmpR (op_uEq hr.rm.units) (pe_ix ix_u (pv 5) pe_int (fun _ _ => rfl)) pe_str (nomark _)) (pw_and1 (pt_cmpR (op_uEq hr.rm.units) (pv 2) pe_int (nomark _))))) (pss_one (ps_ret (pe_uJoin pe_str (pe_op op_uAdd (pv 5) (pe_lstU (pa_cons pe_str pa_nil)))))) pss_nil)
  (pss_one (ps_ret (pe_uJoin pe_str (pe_op op_uAdd (pv 5) (pe_lstU (pa_cons (pe_go k__law_minutes_word (hr.mono (by decide)) rfl F__law_minutes_word.g F__law_minutes_word.fn.kp F__law_minutes_word.b pass0 (pa_cons (pv 0) (pa_cons (pv 2) pa_nil))) pa_nil)))))))))))

abbrev s__law_kinds_ : Stmt := topS 56
abbrev N__law_kinds : List Str := ["pen", "names", "many", "odd", "places", "roads", "k", "wrong", "stands", "reach_words", "name"]
theorem sc__law_kinds : FnScope N__law_kinds ["pen"] (defScope s__law_kinds_) := ⟨rfl, rfl, rfl, by decide +kernel, rfl, by decide +kernel, by decide +kernel⟩
def t__law_kinds_b1 (K : PySem.W.Frag) (s__law_names : Sp) (s__law_draw : Sp) (s__law_road_row : Sp) : TS :=
  tSeq (tAsg (tCB (uInt) (tCons (tAndT K (tOp (uEq K false) (tVar 3) (tC (.int 1))) (tOp (uEq K false) (tGo s__law_draw E0 (tCons (tVar 0) (tCons (tC (.int 9)) (tNil)))) (tC (.int 0)))) (tNil))) (gName 7)) (tDrop (tBM K "list" uAppend (tVar 5) (tCons (tGo s__law_road_row E0 (tCons (tVar 0) (tCons (tSl (uSl K) (tVar 1) (tNoPart) (tPart (tVar 2))) (tCons (tVar 7) (tNil))))) (tNil))))
def t__law_kinds_r1 (K : PySem.W.Frag) (s__law_names : Sp) (s__law_draw : Sp) (s__law_road_row : Sp) : TS :=
  tSeq (tAsg (tLstU (tCons (tOp (uAdd K) (tC (.str "reach ")) (tOp (uIx K) (tLstU (tCons (tC (.str "0")) (tCons (tC (.str "120")) (tCons (tC (.str "121")) (tCons (tC (.str "7")) (tNil)))))) (tGo s__law_draw E0 (tCons (tVar 0) (tCons (tC (.int 4)) (tNil)))))) (tNil))) (gName 9)) (tRet (tLstU (tCons (tVar 4) (tCons (tVar 5) (tCons (tVar 8) (tCons (tOp uMul (tVar 9) (tGo s__law_draw E0 (tCons (tVar 0) (tCons (tC (.int 3)) (tNil))))) (tNil)))))))
def t__law_kinds_r2 (K : PySem.W.Frag) (s__law_names : Sp) (s__law_draw : Sp) (s__law_road_row : Sp) : TS :=
  tSeq (tAsg (tLc (iU K (tSl (uSl K) (tVar 1) (tNoPart) (tPart (tGo s__law_draw E0 (tCons (tVar 0) (tCons (tC (.int 8)) (tNil))))))) (gName 10) (tYes) (tOp (uAdd K) (tC (.str "stand ")) (tVar 10)) [10]) (gName 8)) (tSeq (tIfS (tTest (tOp (uEq K false) (tVar 3) (tC (.int 2)))) (tDrop (tBM K "list" uInsert (tVar 8) (tCons (tGo s__law_draw E0 (tCons (tVar 0) (tCons (tOp (uAdd K) (tCB (uLen K) (tCons (tVar 8) (tNil))) (tC (.int 1))) (tNil)))) (tCons (tOp (uAdd K) (tC (.str "stand ")) (tOp (uIx K) (tVar 1) (tGo s__law_draw E0 (tCons (tVar 0) (tCons (tC (.int 13)) (tNil)))))) (tNil))))) (tNext)) (t__law_kinds_r1 K s__law_names s__law_draw s__law_road_row))
def t__law_kinds_r3 (K : PySem.W.Frag) (s__law_names : Sp) (s__law_draw : Sp) (s__law_road_row : Sp) : TS :=
  tSeq (tAsg (tLstU (tNil)) (gName 5)) (tSeq (tFor (iRng1 (tCons (tOp (uIx K) (tLstU (tCons (tGo s__law_draw E0 (tCons (tVar 0) (tCons (tC (.int 19)) (tNil)))) (tCons (tC (.int 18)) (tCons (tC (.int 20)) (tNil))))) (tGo s__law_draw E0 (tCons (tVar 0) (tCons (tC (.int 3)) (tNil))))) (tNil))) (gName 6) (t__law_kinds_b1 K s__law_names s__law_draw s__law_road_row)) (t__law_kinds_r2 K s__law_names s__law_draw s__law_road_row))
def t__law_kinds (K : PySem.W.Frag) (s__law_names : Sp) (s__law_draw : Sp) (s__law_road_row : Sp) : TS :=
  tSeq (tAsg (tGo s__law_names E0 (tCons (tVar 0) (tCons (tC (.int 13)) (tNil)))) (gName 1)) (tSeq (tAsg (tOp (uAdd K) (tOp (uAdd K) (tC (.int 1)) (tGo s__law_draw E0 (tCons (tVar 0) (tCons (tC (.int 10)) (tNil))))) (tOp uMul (tCB (uInt) (tCons (tOp (uEq K false) (tGo s__law_draw E0 (tCons (tVar 0) (tCons (tC (.int 4)) (tNil)))) (tC (.int 0))) (tNil))) (tC (.int 2)))) (gName 2)) (tSeq (tAsg (tGo s__law_draw E0 (tCons (tVar 0) (tCons (tC (.int 4)) (tNil)))) (gName 3)) (tSeq (tAsg (tLc (iU K (tSl (uSl K) (tVar 1) (tNoPart) (tPart (tVar 2)))) (gName 10) (tYes) (tOp (uAdd K) (tC (.str "place ")) (tVar 10)) [10]) (gName 4)) (tSeq (tIfS (tTest (tOp (uEq K false) (tVar 3) (tC (.int 0)))) (tDrop (tBM K "list" uInsert (tVar 4) (tCons (tGo s__law_draw E0 (tCons (tVar 0) (tCons (tOp (uAdd K) (tVar 2) (tC (.int 1))) (tNil)))) (tCons (tOp (uIx K) (tVar 4) (tGo s__law_draw E0 (tCons (tVar 0) (tCons (tVar 2) (tNil))))) (tNil))))) (tNext)) (t__law_kinds_r3 K s__law_names s__law_draw s__law_road_row)))))
theorem dv__law_kinds {P : Program} {w : World} {K : PySem.W.Frag} {mg : Str → Option Value} {b : Heap} {a : Addr} {d : FuncData} {sp : Sp} (F : Fn K mg "_law_kinds" s__law_kinds_ a d ["pen"])
    {a__law_names : Addr} {d__law_names : FuncData} {s__law_names : Sp} (F__law_names : Fn K mg "_law_names" s__law_names_ a__law_names d__law_names ["pen", "many"]) (k__law_names : Keeps P w K mg b CX0 4 a__law_names d__law_names ["pen", "many"] s__law_names)
    {a__law_draw : Addr} {d__law_draw : FuncData} {s__law_draw : Sp} (F__law_draw : Fn K mg "_law_draw" s__law_draw_ a__law_draw d__law_draw ["pen", "base"]) (k__law_draw : Keeps P w K mg b CX0 2 a__law_draw d__law_draw ["pen", "base"] s__law_draw)
    (n_int : mg "int" = none)
    (n_range : mg "range" = none)
    {a__law_road_row : Addr} {d__law_road_row : FuncData} {s__law_road_row : Sp} (F__law_road_row : Fn K mg "_law_road_row" s__law_road_row_ a__law_road_row d__law_road_row ["pen", "names", "wrong"]) (k__law_road_row : Keeps P w K mg b CX0 4 a__law_road_row d__law_road_row ["pen", "names", "wrong"] s__law_road_row)
    (n_len : mg "len" = none)
    (len : ∀ vs H Q E, sp vs H Q E → vs.length = 1)
    (rd : ∀ vs H Q E, sp vs H Q E → run (t__law_kinds K s__law_names s__law_draw s__law_road_row) (start N__law_kinds vs) H Q) : Keeps P w K mg b CX0 5 a d ["pen"] sp := by
  refine keeps0 F.fn sc__law_kinds len fun cdv A o s H vs Q E hr h => ⟨t__law_kinds K s__law_names s__law_draw s__law_road_row, ?_, rd vs H Q E h⟩
  unfold t__law_kinds t__law_kinds_r3 t__law_kinds_r2 t__law_kinds_r1 t__law_kinds_b1
  exact (pss_cons (ps_set (i := 1) sc__law_kinds.nd rfl (.inl rfl) (pe_go k__law_names (hr.mono (by decide)) rfl F__law_names.g F__law_names.fn.kp F__law_names.b pass0 (pa_cons (pv 0) (pa_cons pe_int pa_nil))))
  (pss_cons (ps_set (i := 2) sc__law_kinds.nd rfl (.inl rfl) (pe_op op_uAdd (pe_op op_uAdd pe_int (pe_go k__law_draw (hr.mono (by decide)) rfl F__law_draw.g F__law_draw.fn.kp F__law_draw.b pass0 (pa_cons (pv 0) (pa_cons pe_int pa_nil)))) (pe_op op_uMul (pe_callTy call_uInt (by rfl) n_int (by decide +kernel) (pa_cons (pe_cmpR (op_uEq hr.rm.units) (pe_go k__law_draw (hr.mono (by decide)) rfl F__law_draw.g F__law_draw.fn.kp F__law_draw.b pass0 (pa_cons (pv 0) (pa_cons pe_int pa_nil))) pe_int (nomark _)) pa_nil)) pe_int)))
  (pss_cons (ps_set (i := 3) sc__law_kinds.nd rfl (.inl rfl) (pe_go k__law_draw (hr.mono (by decide)) rfl F__law_draw.g F__law_draw.fn.kp F__law_draw.b pass0 (pa_cons (pv 0) (pa_cons pe_int pa_nil))))
  (pss_cons (ps_setLc (i := 4) (own := [("name", 10)]) rfl sc__law_kinds.nd rfl rfl (sw_true rfl rfl rfl (by decide +kernel)) (pi_u (pe_slice sl_u (pv 1) po_none (po_some (pv 2)))) (blkOk_by (own := [("name", 10)]) (N := N__law_kinds) (sc := defScope s__law_kinds_) (by decide +kernel)) (fun _ _ _ _ _ => (pg_name (i := 10) sc__law_kinds.nd rfl (.inl rfl))) (fun _ _ _ _ _ => pts_nil) (fun _ _ _ _ _ => (pe_op op_uAdd pe_str (pv 10))))
  (pss_cons (ps_if (pt_cmpR (op_uEq hr.rm.units) (pv 3) pe_int (nomark _)) (pss_one (ps_expr (pe_bm PySem.F.plainAttrs_list PySem.F.slot_list_insert PySem.F.type_list_insert mt_uInsert (pv 4) (pa_cons (pe_go k__law_draw (hr.mono (by decide)) rfl F__law_draw.g F__law_draw.fn.kp F__law_draw.b pass0 (pa_cons (pv 0) (pa_cons (pe_op op_uAdd (pv 2) pe_int) pa_nil))) (pa_cons (pe_ix ix_u (pv 4) (pe_go k__law_draw (hr.mono (by decide)) rfl F__law_draw.g F__law_draw.fn.kp F__law_draw.b pass0 (pa_cons (pv 0) (pa_cons (pv 2) pa_nil))) (fun _ _ => rfl)) pa_nil))))) pss_nil)
  (pss_cons (ps_set (i := 5) sc__law_kinds.nd rfl (.inl rfl) (pe_lstU pa_nil))
  (pss_cons (ps_for PassesOwn.never rfl (pi_range1 (by rfl) n_range (pa_cons (pe_ix ix_u (pe_lstU (pa_cons (pe_go k__law_draw (hr.mono (by decide)) rfl F__law_draw.g F__law_draw.fn.kp F__law_draw.b pass0 (pa_cons (pv 0) (pa_cons pe_int pa_nil))) (pa_cons pe_int (pa_cons pe_int pa_nil)))) (pe_go k__law_draw (hr.mono (by decide)) rfl F__law_draw.g F__law_draw.fn.kp F__law_draw.b pass0 (pa_cons (pv 0) (pa_cons pe_int pa_nil))) (fun _ _ => rfl)) pa_nil)) (pg_name (i := 6) sc__law_kinds.nd rfl (.inl rfl)) (pss_cons (ps_set (i := 7) sc__law_kinds.nd rfl (.inl rfl) (pe_callTy call_uInt (by rfl) n_int (by decide +kernel) (pa_cons (pe_andT (pe_cmpR (op_uEq hr.rm.units) (pv 3) pe_int (nomark _)) (pe_one (pe_cmpR (op_uEq hr.rm.units) (pe_go k__law_draw (hr.mono (by decide)) rfl F__law_draw.g F__law_draw.fn.kp F__law_draw.b pass0 (pa_cons (pv 0) (pa_cons pe_int pa_nil))) pe_int (nomark _)))) pa_nil)))
  (pss_one (ps_expr (pe_bm PySem.F.plainAttrs_list PySem.F.slot_list_append PySem.F.type_list_append mt_uAppend (pv 5) (pa_cons (pe_go k__law_road_row (hr.mono (by decide)) rfl F__law_road_row.g F__law_road_row.fn.kp F__law_road_row.b pass0 (pa_cons (pv 0) (pa_cons (pe_slice sl_u (pv 1) po_none (po_some (pv 2))) (pa_cons (pv 7) pa_nil)))) pa_nil))))))
  (pss_cons (ps_setLc (i := 8) (own := [("name", 10)]) rfl sc__law_kinds.nd rfl rfl (sw_true rfl rfl rfl (by decide +kernel)) (pi_u (pe_slice sl_u (pv 1) po_none (po_some (pe_go k__law_draw (hr.mono (by decide)) rfl F__law_draw.g F__law_draw.fn.kp F__law_draw.b pass0 (pa_cons (pv 0) (pa_cons pe_int pa_nil)))))) (blkOk_by (own := [("name", 10)]) (N := N__law_kinds) (sc := defScope s__law_kinds_) (by decide +kernel)) (fun _ _ _ _ _ => (pg_name (i := 10) sc__law_kinds.nd rfl (.inl rfl))) (fun _ _ _ _ _ => pts_nil) (fun _ _ _ _ _ => (pe_op op_uAdd pe_str (pv 10))))
  (pss_cons (ps_if (pt_cmpR (op_uEq hr.rm.units) (pv 3) pe_int (nomark _)) (pss_one (ps_expr (pe_bm PySem.F.plainAttrs_list PySem.F.slot_list_insert PySem.F.type_list_insert mt_uInsert (pv 8) (pa_cons (pe_go k__law_draw (hr.mono (by decide)) rfl F__law_draw.g F__law_draw.fn.kp F__law_draw.b pass0 (pa_cons (pv 0) (pa_cons (pe_op op_uAdd (pe_callB call_uLen (by rfl) n_len (by decide +kernel) (pa_cons (pv 8) pa_nil)) pe_int) pa_nil))) (pa_cons (pe_op op_uAdd pe_str (pe_ix ix_u (pv 1) (pe_go k__law_draw (hr.mono (by decide)) rfl F__law_draw.g F__law_draw.fn.kp F__law_draw.b pass0 (pa_cons (pv 0) (pa_cons pe_int pa_nil))) (fun _ _ => rfl))) pa_nil))))) pss_nil)
  (pss_cons (ps_set (i := 9) sc__law_kinds.nd rfl (.inl rfl) (pe_lstU (pa_cons (pe_op op_uAdd pe_str (pe_ix ix_u (pe_lstU (pa_cons pe_str (pa_cons pe_str (pa_cons pe_str (pa_cons pe_str pa_nil))))) (pe_go k__law_draw (hr.mono (by decide)) rfl F__law_draw.g F__law_draw.fn.kp F__law_draw.b pass0 (pa_cons (pv 0) (pa_cons pe_int pa_nil))) (fun _ _ => rfl))) pa_nil)))
  (pss_one (ps_ret (pe_lstU (pa_cons (pv 4) (pa_cons (pv 5) (pa_cons (pv 8) (pa_cons (pe_op op_uMul (pv 9) (pe_go k__law_draw (hr.mono (by decide)) rfl F__law_draw.g F__law_draw.fn.kp F__law_draw.b pass0 (pa_cons (pv 0) (pa_cons pe_int pa_nil)))) pa_nil)))))))))))))))))

abbrev s__law_text_ : Stmt := topS 57
abbrev N__law_text : List Str := ["pen", "kinds", "at", "rows", "some"]
theorem sc__law_text : FnScope N__law_text ["pen"] (defScope s__law_text_) := ⟨rfl, rfl, rfl, by decide +kernel, rfl, by decide +kernel, by decide +kernel⟩
def t__law_text_b1 (K : PySem.W.Frag) (s__law_kinds : Sp) (s__law_draw : Sp) : TS :=
  tDrop (tBM K "list" uExtend (tVar 3) (tCons (tVar 4) (tNil)))
def t__law_text_r1 (K : PySem.W.Frag) (s__law_kinds : Sp) (s__law_draw : Sp) : TS :=
  tRet (tM1 (uJoin K) (tC (.str "\n")) (tVar 3))
def t__law_text_r2 (K : PySem.W.Frag) (s__law_kinds : Sp) (s__law_draw : Sp) : TS :=
  tSeq (tIfS (tTest (tOp (uEq K false) (tVar 2) (tC (.int 3)))) (tDrop (tBM K "list" uAppend (tVar 3) (tCons (tOp (uIx K) (tVar 3) (tGo s__law_draw E0 (tCons (tVar 0) (tCons (tCB (uLen K) (tCons (tVar 3) (tNil))) (tNil))))) (tNil)))) (tNext)) (t__law_text_r1 K s__law_kinds s__law_draw)
def t__law_text_r3 (K : PySem.W.Frag) (s__law_kinds : Sp) (s__law_draw : Sp) : TS :=
  tSeq (tAsg (tLstU (tNil)) (gName 3)) (tSeq (tFor (iU K (tVar 1)) (gName 4) (t__law_text_b1 K s__law_kinds s__law_draw)) (t__law_text_r2 K s__law_kinds s__law_draw))
def t__law_text (K : PySem.W.Frag) (s__law_kinds : Sp) (s__law_draw : Sp) : TS :=
  tSeq (tAsg (tGo s__law_kinds E0 (tCons (tVar 0) (tNil))) (gName 1)) (tSeq (tAsg (tGo s__law_draw E0 (tCons (tVar 0) (tCons (tC (.int 8)) (tNil)))) (gName 2)) (tSeq (tIfS (tTest (tOp (rI0 fun i j => .bl (decide (i < j))) (tVar 2) (tC (.int 3)))) (tAsg (tOp (uAdd K) (tOp (uAdd K) (tSl (uSl K) (tVar 1) (tNoPart) (tPart (tVar 2))) (tLstU (tCons (tOp (uIx K) (tVar 1) (tOp (uAdd K) (tVar 2) (tC (.int 1)))) (tCons (tOp (uIx K) (tVar 1) (tVar 2)) (tNil))))) (tSl (uSl K) (tVar 1) (tPart (tOp (uAdd K) (tVar 2) (tC (.int 2)))) (tNoPart))) (gName 1)) (tNext)) (t__law_text_r3 K s__law_kinds s__law_draw)))
theorem dv__law_text {P : Program} {w : World} {K : PySem.W.Frag} {mg : Str → Option Value} {b : Heap} {a : Addr} {d : FuncData} {sp : Sp} (F : Fn K mg "_law_text" s__law_text_ a d ["pen"])
    {a__law_kinds : Addr} {d__law_kinds : FuncData} {s__law_kinds : Sp} (F__law_kinds : Fn K mg "_law_kinds" s__law_kinds_ a__law_kinds d__law_kinds ["pen"]) (k__law_kinds : Keeps P w K mg b CX0 5 a__law_kinds d__law_kinds ["pen"] s__law_kinds)
    {a__law_draw : Addr} {d__law_draw : FuncData} {s__law_draw : Sp} (F__law_draw : Fn K mg "_law_draw" s__law_draw_ a__law_draw d__law_draw ["pen", "base"]) (k__law_draw : Keeps P w K mg b CX0 2 a__law_draw d__law_draw ["pen", "base"] s__law_draw)
    (n_len : mg "len" = none)
    (len : ∀ vs H Q E, sp vs H Q E → vs.length = 1)
    (rd : ∀ vs H Q E, sp vs H Q E → run (t__law_text K s__law_kinds s__law_draw) (start N__law_text vs) H Q) : Keeps P w K mg b CX0 6 a d ["pen"] sp := by
  refine keeps0 F.fn sc__law_text len fun cdv A o s H vs Q E hr h => ⟨t__law_text K s__law_kinds s__law_draw, ?_, rd vs H Q E h⟩
  unfold t__law_text t__law_text_r3 t__law_text_r2 t__law_text_r1 t__law_text_b1
  exact (pss_cons (ps_set (i := 1) sc__law_text.nd rfl (.inl rfl) (pe_go k__law_kinds (hr.mono (by decide)) rfl F__law_kinds.g F__law_kinds.fn.kp F__law_kinds.b pass0 (pa_cons (pv 0) pa_nil)))
  (pss_cons (ps_set (i := 2) sc__law_text.nd rfl (.inl rfl) (pe_go k__law_draw (hr.mono (by decide)) rfl F__law_draw.g F__law_draw.fn.kp F__law_draw.b pass0 (pa_cons (pv 0) (pa_cons pe_int pa_nil))))
  (pss_cons (ps_if (pt_cmpR op_lt (pv 2) pe_int (nomark _)) (pss_one (ps_set (i := 1) sc__law_text.nd rfl (.inl rfl) (pe_op op_uAdd (pe_op op_uAdd (pe_slice sl_u (pv 1) po_none (po_some (pv 2))) (pe_lstU (pa_cons (pe_ix ix_u (pv 1) (pe_op op_uAdd (pv 2) pe_int) (fun _ _ => rfl)) (pa_cons (pe_ix ix_u (pv 1) (pv 2) (fun _ _ => rfl)) pa_nil)))) (pe_slice sl_u (pv 1) (po_some (pe_op op_uAdd (pv 2) pe_int)) po_none)))) pss_nil)
  (pss_cons (ps_set (i := 3) sc__law_text.nd rfl (.inl rfl) (pe_lstU pa_nil))
  (pss_cons (ps_for PassesOwn.never rfl (pi_u (pv 1)) (pg_name (i := 4) sc__law_text.nd rfl (.inl rfl)) (pss_one (ps_expr (pe_bm PySem.F.plainAttrs_list PySem.F.slot_list_extend PySem.F.type_list_extend mt_uExtend (pv 3) (pa_cons (pv 4) pa_nil)))))
  (pss_cons (ps_if (pt_cmpR (op_uEq hr.rm.units) (pv 2) pe_int (nomark _)) (pss_one (ps_expr (pe_bm PySem.F.plainAttrs_list PySem.F.slot_list_append PySem.F.type_list_append mt_uAppend (pv 3) (pa_cons (pe_ix ix_u (pv 3) (pe_go k__law_draw (hr.mono (by decide)) rfl F__law_draw.g F__law_draw.fn.kp F__law_draw.b pass0 (pa_cons (pv 0) (pa_cons (pe_callB call_uLen (by rfl) n_len (by decide +kernel) (pa_cons (pv 3) pa_nil)) pa_nil))) (fun _ _ => rfl)) pa_nil)))) pss_nil)
  (pss_one (ps_ret (pe_uJoin pe_str (pv 3))))))))))

abbrev s_law_ : Stmt := topS 58
abbrev N_law : List Str := ["script", "ahead", "k", "pen", "turn", "text"]
theorem sc_law : FnScope N_law ["script"] (defScope s_law_) := ⟨rfl, rfl, rfl, by decide +kernel, rfl, by decide +kernel, by decide +kernel⟩
def t_law_r1 (K : PySem.W.Frag) (s__law_pen : Sp) (s__law_text : Sp) (s__law_told : Sp) (s__law_read : Sp) : TS :=
  tAsg (tVar 5) (gName 1)
def t_law_r2 (K : PySem.W.Frag) (s__law_pen : Sp) (s__law_text : Sp) (s__law_told : Sp) (s__law_read : Sp) : TS :=
  tSeq (tIfS (tTest (tOp (uEq K true) (tCB (uReprX K) (tCons (tGo s__law_told E0 (tCons (tVar 1) (tNil))) (tNil))) (tCB (uReprX K) (tCons (tGo s__law_read E0 (tCons (tVar 1) (tNil))) (tNil))))) (tRet (tC (.bl false))) (tNext)) (t_law_r1 K s__law_pen s__law_text s__law_told s__law_read)
def t_law_b1 (K : PySem.W.Frag) (s__law_pen : Sp) (s__law_text : Sp) (s__law_told : Sp) (s__law_read : Sp) : TS :=
  tSeq (tAsg (tGo s__law_text E0 (tCons (tVar 3) (tNil))) (gName 5)) (tSeq (tIfS (tTest (tOp (uEq K true) (tCB (uReprX K) (tCons (tGo s__law_told E0 (tCons (tVar 5) (tNil))) (tNil))) (tCB (uReprX K) (tCons (tGo s__law_read E0 (tCons (tVar 5) (tNil))) (tNil))))) (tRet (tC (.bl false))) (tNext)) (t_law_r2 K s__law_pen s__law_text s__law_told s__law_read))
def t_law_b2 (K : PySem.W.Frag) (s__law_pen : Sp) (s__law_text : Sp) (s__law_told : Sp) (s__law_read : Sp) : TS :=
  tSeq (tAsg (tGo s__law_pen E0 (tCons (tVar 0) (tCons (tVar 2) (tNil)))) (gName 3)) (tFor (iRng1 (tCons (tC (.int 3)) (tNil))) (gName 4) (t_law_b1 K s__law_pen s__law_text s__law_told s__law_read))
def t_law_r3 (K : PySem.W.Frag) (s__law_pen : Sp) (s__law_text : Sp) (s__law_told : Sp) (s__law_read : Sp) : TS :=
  tRet (tC (.bl true))
def t_law (K : PySem.W.Frag) (s__law_pen : Sp) (s__law_text : Sp) (s__law_told : Sp) (s__law_read : Sp) : TS :=
  tSeq (tAsg (tC (.str "place a")) (gName 1)) (tSeq (tFor (iRng1 (tCons (tCB uMax2 (tCons (tC (.int 1)) (tCons (tCB uMin2 (tCons (tC (.int 10)) (tCons (tCB (uLen K) (tCons (tVar 0) (tNil))) (tNil)))) (tNil)))) (tNil))) (gName 2) (t_law_b2 K s__law_pen s__law_text s__law_told s__law_read)) (t_law_r3 K s__law_pen s__law_text s__law_told s__law_read))
theorem dv_law {P : Program} {w : World} {K : PySem.W.Frag} {mg : Str → Option Value} {b : Heap} {a : Addr} {d : FuncData} {sp : Sp} (F : Fn K mg "law" s_law_ a d ["script"])
    (n_range : mg "range" = none)
    (n_max : mg "max" = none)
    (n_min : mg "min" = none)
    (n_len : mg "len" = none)
    {a__law_pen : Addr} {d__law_pen : FuncData} {s__law_pen : Sp} (F__law_pen : Fn K mg "_law_pen" s__law_pen_ a__law_pen d__law_pen ["script", "k"]) (k__law_pen : Keeps P w K mg b CX0 2 a__law_pen d__law_pen ["script", "k"] s__law_pen)
    {a__law_text : Addr} {d__law_text : FuncData} {s__law_text : Sp} (F__law_text : Fn K mg "_law_text" s__law_text_ a__law_text d__law_text ["pen"]) (k__law_text : Keeps P w K mg b CX0 6 a__law_text d__law_text ["pen"] s__law_text)
    (n_repr : mg "repr" = none)
    {a__law_told : Addr} {d__law_told : FuncData} {s__law_told : Sp} (F__law_told : Fn K mg "_law_told" s__law_told_ a__law_told d__law_told ["thing"]) (k__law_told : Keeps P w K mg b CX0 9 a__law_told d__law_told ["thing"] s__law_told)
    {a__law_read : Addr} {d__law_read : FuncData} {s__law_read : Sp} (F__law_read : Fn K mg "_law_read" s__law_read_ a__law_read d__law_read ["thing"]) (k__law_read : Keeps P w K mg b CX0 6 a__law_read d__law_read ["thing"] s__law_read)
    (len : ∀ vs H Q E, sp vs H Q E → vs.length = 1)
    (rd : ∀ vs H Q E, sp vs H Q E → run (t_law K s__law_pen s__law_text s__law_told s__law_read) (start N_law vs) H Q) : Keeps P w K mg b CX0 10 a d ["script"] sp := by
  refine keeps0 F.fn sc_law len fun cdv A o s H vs Q E hr h => ⟨t_law K s__law_pen s__law_text s__law_told s__law_read, ?_, rd vs H Q E h⟩
  unfold t_law t_law_r3 t_law_b2 t_law_b1 t_law_r2 t_law_r1
  exact (pss_cons (ps_set (i := 1) sc_law.nd rfl (.inl rfl) pe_str)
  (pss_cons (ps_for PassesOwn.never rfl (pi_range1 (by rfl) n_range (pa_cons (pe_callB (call_uMax2 rfl) (by rfl) n_max (by decide +kernel) (pa_cons pe_int (pa_cons (pe_callB (call_uMin2 rfl) (by rfl) n_min (by decide +kernel) (pa_cons pe_int (pa_cons (pe_callB call_uLen (by rfl) n_len (by decide +kernel) (pa_cons (pv 0) pa_nil)) pa_nil))) pa_nil))) pa_nil)) (pg_name (i := 2) sc_law.nd rfl (.inl rfl)) (pss_cons (ps_set (i := 3) sc_law.nd rfl (.inl rfl) (pe_go k__law_pen (hr.mono (by decide)) rfl F__law_pen.g F__law_pen.fn.kp F__law_pen.b pass0 (pa_cons (pv 0) (pa_cons (pv 2) pa_nil))))
  (pss_one (ps_for PassesOwn.never rfl (pi_range1 (by rfl) n_range (pa_cons pe_int pa_nil)) (pg_name (i := 4) sc_law.nd rfl (.inl rfl)) (pss_cons (ps_set (i := 5) sc_law.nd rfl (.inl rfl) (pe_go k__law_text (hr.mono (by decide)) rfl F__law_text.g F__law_text.fn.kp F__law_text.b pass0 (pa_cons (pv 3) pa_nil)))
  (pss_cons (ps_if (pt_cmpR (op_uNe hr.rm.units) (pe_callB (call_uReprX (hr.mono (by decide))) (by rfl) n_repr (by decide +kernel) (pa_cons (pe_go k__law_told (hr.mono (by decide)) rfl F__law_told.g F__law_told.fn.kp F__law_told.b pass0 (pa_cons (pv 5) pa_nil)) pa_nil)) (pe_callB (call_uReprX (hr.mono (by decide))) (by rfl) n_repr (by decide +kernel) (pa_cons (pe_go k__law_read (hr.mono (by decide)) rfl F__law_read.g F__law_read.fn.kp F__law_read.b pass0 (pa_cons (pv 5) pa_nil)) pa_nil)) (nomark _)) (pss_one (ps_ret pe_bl)) pss_nil)
  (pss_cons (ps_if (pt_cmpR (op_uNe hr.rm.units) (pe_callB (call_uReprX (hr.mono (by decide))) (by rfl) n_repr (by decide +kernel) (pa_cons (pe_go k__law_told (hr.mono (by decide)) rfl F__law_told.g F__law_told.fn.kp F__law_told.b pass0 (pa_cons (pv 1) pa_nil)) pa_nil)) (pe_callB (call_uReprX (hr.mono (by decide))) (by rfl) n_repr (by decide +kernel) (pa_cons (pe_go k__law_read (hr.mono (by decide)) rfl F__law_read.g F__law_read.fn.kp F__law_read.b pass0 (pa_cons (pv 1) pa_nil)) pa_nil)) (nomark _)) (pss_one (ps_ret pe_bl)) pss_nil)
  (pss_one (ps_set (i := 1) sc_law.nd rfl (.inl rfl) (pv 5))))))))))
  (pss_one (ps_ret pe_bl))))


local macro_rules | `(tactic| walk_at "hp") => `(tactic| first | assumption | (refine Keep.at (by assumption) ?_ ?_ <;> first | exact nin0 | (refine nin1 ?_; walk_at "ne") | walk_at "hp"))
local macro_rules | `(tactic| walk_at "ne") => `(tactic| first | assumption | (refine Ne.symm ?_; assumption) | exact Tup.neL (by assumption) (by assumption) | exact ne_of_none (by assumption) (by assumption) | exact (ne_of_none (by assumption) (by assumption)).symm)
local macro_rules | `(tactic| walk_at "sx") => `(tactic| try simp only [run, tSeq, tAsg, tIfS, tTest, tOp, tUn, tVar, tC, tRet, tRetN, tDrop, gName, gSub, gCons, gNil, tNext, tCons, tNil, tGo, tCB, tAndT, tOrT, tNotT, tTru, tAnd, tOr, tNot, tChain, tIf, tLstU, tTupU, tSl, tPart, tNoPart, tPar, tBM, tBM0, tDNewU, tDic1,
  List.getElem?_cons_zero, List.getElem?_cons_succ, List.set_cons_zero, List.set_cons_succ, Option.some.injEq, exists_eq_left', exists_eq_left, V.int.injEq, V.bl.injEq, V.str.injEq, V.ref.injEq, true_and, and_true, e_rI, e_rI0, e_rU, e_addI, e_addS, e_mulI, e_abs, e_max2, e_min2, e_str, e_intI, e_intB, e_isN, e_notN, e_truB, e_truI, wipe, tYes, tDicI, tIdx, tM1, tM0, e_lcU, e_lcR1, e_ten6, e_ten18, e_ten60, e_mkV, e_mkA, e_raW, e_xfV, e_for1, e_for2, e_forU, e_forE, e_lcZ, e_dget, e_dput, e_forE, decide_eq_true_eq, if_true, if_false, ite_true, ite_false, Bool.false_eq_true, Bool.not_true, Bool.not_false, Bool.true_eq_false])
local macro_rules | `(tactic| walk_at "sz") => `(tactic| (first | refine len_le ?_ | refine len_lt ?_ | skip); simp only [List.length_cons, List.length_nil, List.length_append, List.length_map, List.length_replicate, List.length_set]; omega)
/-! ### the draws -/
/-- a pen that k draws may be taken of -/
def Pen (H : Hp) (p : Addr) (k : Nat) : Prop := ∃ d c n : Int, H p = some (.lst [.int d, .int c, .int n]) ∧ 0 ≤ d ∧ 0 ≤ c ∧ c < 2147483629 ∧ 0 ≤ n ∧ n + (k : Int) ≤ 1000000
theorem Pen.less {H : Hp} {p : Addr} {j k : Nat} (h : Pen H p k) (l : j ≤ k) : Pen H p j := by
  obtain ⟨d, c, n, e, h1, h2, h3, h4, h5⟩ := h
  exact ⟨d, c, n, e, h1, h2, h3, h4, by omega⟩
theorem Pen.keep {H H' : Hp} {p : Addr} {k : Nat} (h : Pen H p k) (q : Keep [] H H') : Pen H' p k := by
  obtain ⟨d, c, n, e, r⟩ := h
  exact ⟨d, c, n, q _ _ nin0 e, r⟩
theorem Pen.at {H : Hp} {p : Addr} {k : Nat} (h : Pen H p k) : ∃ xs, H p = some (.lst xs) := by
  obtain ⟨d, c, n, e, r⟩ := h
  exact ⟨_, e⟩
def spDraw : Sp := fun vs H Q _ => ∃ (p : Addr) (b : Int) (k : Nat), vs = [.ref p, .int b] ∧ 0 < b ∧ b < 1073741824 ∧ Pen H p (k + 1) ∧ ∀ r H', 0 ≤ r → r < b → Keep [p] H H' → Pen H' p k → Q (.int r) H'
theorem cmul_small {i j : Int} (h : -(2 ^ 64) < i ∧ i < 2 ^ 64) : CMul i j := .inl h
theorem cmul_right {i j : Int} (h : -(2 ^ 64) < j ∧ j < 2 ^ 64) : CMul i j := .inr h
theorem rd_draw (K : PySem.W.Frag) : ∀ vs H Q E, spDraw vs H Q E → run (t__law_draw K) (L2.start N__law_draw vs) H Q := by
  rintro _ H Q _ ⟨p, b, k, rfl, b0, b1, ⟨d, c, n, hp, d0, c0, c1, n0, nk⟩, q⟩
  show run (t__law_draw K) [some (.ref p), some (.int b), none, none, none] H Q
  unfold t__law_draw
  walk_at "sx"
  refine g_ixL hp (at_lit 0 rfl rfl) ?_
  walk_at "sx"
  by_cases h : 0 < d
  · rw [if_pos h]
    refine g_ixL hp (at_lit 0 rfl rfl) ?_
    walk_at "sx"
    refine ⟨b0, g_ixL hp (at_lit 0 rfl rfl) ?_⟩
    walk_at "sx"
    refine ⟨⟨b0, b1⟩, g_setL hp (k := 0) rfl fun H' k1 hp1 => ?_⟩
    refine q _ _ (Int.emod_nonneg _ (by omega)) (Int.emod_lt_of_pos _ b0) k1 ⟨_, c, n, hp1, Int.ediv_nonneg d0 (by omega), c0, c1, n0, by omega⟩
  · rw [if_neg h]
    unfold t__law_draw_r1
    walk_at "sx"
    refine g_ixL hp (at_lit 2 rfl rfl) ?_
    walk_at "sx"
    refine g_setL hp (k := 2) rfl fun H1 k1 hp1 => ?_
    have hp1' : H1 p = some (.lst [.int d, .int c, .int (n + 1)]) := hp1
    refine g_ixL hp1' (at_lit 2 rfl rfl) (g_ixL hp1' (at_lit 1 rfl rfl) ?_)
    walk_at "sx"
    refine ⟨cmul_right (by decide), cmul_small (by decide), cmul_right (by omega), cmul_small (by decide), by decide, by decide, cmul_right ?_, by decide, cmul_right (by decide), by decide, ⟨by decide, by decide⟩, b0, ?_⟩
    · generalize (c * 40503 + 7919 * (n + 1) * (n + 1) + 104729 * (n + 1)) % 2147483647 = x
      have h1 := Int.emod_nonneg x (show (65003 : Int) ≠ 0 by decide)
      have h2 := Int.emod_lt_of_pos x (show (0 : Int) < 65003 by decide)
      omega
    · refine q _ _ (Int.emod_nonneg _ (by omega)) (Int.emod_lt_of_pos _ b0) k1 ⟨d, c, n + 1, hp1', d0, c0, c1, by omega, by omega⟩
def spPen (K : PySem.W.Frag) : Sp := fun vs H Q _ => ∃ (a : Addr) (k : Int) (ns : List Int), vs = [.ref a, .int k] ∧ SqL K H a (ns.map V.int) ∧ 0 ≤ k ∧ ∀ p H', H p = none → Keep [] H H' → Pen H' p 1000000 → Q (.ref p) H'
theorem rd_pen (K : PySem.W.Frag) : ∀ vs H Q E, spPen K vs H Q E → run (t__law_pen K) (L2.start N__law_pen vs) H Q := by
  rintro _ H Q _ ⟨a, k, ns, rfl, hS, k0, q⟩
  show run (t__law_pen K) [some (.ref a), some (.int k), none, none] H Q
  have fin2 : ∀ cell dg : Int, 0 ≤ dg → t__law_pen_r1 K { nx := fun _ H' => Q .non H', rt := Q } [some (.ref a), some (.int k), some (.int cell), some (.int dg)] H := fun cell dg hd => by
    unfold t__law_pen_r1
    walk_at "sx"
    refine ⟨by decide, by walk_at "sz", fun p H' n kp hp => q p H' n kp ⟨_, _, 0, hp, hd, Int.emod_nonneg _ (by decide), Int.emod_lt_of_pos _ (by decide), by omega, by omega⟩⟩
  have fin : ∀ cell : Int, t__law_pen_r2 K { nx := fun _ H' => Q .non H', rt := Q } [some (.ref a), some (.int k), some (.int cell), none] H := fun cell => by
    unfold t__law_pen_r2
    walk_at "sx"
    refine ⟨⟨by decide, by decide, by decide⟩, ?_⟩
    by_cases h : 1000000000000000000 ≤ if cell < 0 then -cell else cell
    · rw [if_pos h]
      refine fin2 cell _ ?_
      split <;> omega
    · rw [if_neg h]
      exact fin2 cell 0 (by decide)
  unfold t__law_pen
  walk_at "sx"
  refine g_lenQ hS ?_
  walk_at "sx"
  rw [List.length_map]
  by_cases h : k < (ns.length : Int)
  · rw [if_pos h]
    have e : ((ns.map V.int))[k.toNat]? = some (.int ns[k.toNat]) := by
      rw [List.getElem?_map, List.getElem?_eq_getElem (show k.toNat < ns.length by omega)]
      rfl
    exact g_ixQ hS (at_lit k.toNat (by omega) e) (fin _)
  · rw [if_neg h]
    exact fin 0
/-! ### texts by their signs -/
def cl (z : Str) : List Nat := z.cps.toList
theorem cl_app (x y : Str) : cl (x ++ y) = cl x ++ cl y := PySem.W.KT.app_list x y
theorem cl_inj {x y : Str} (h : cl x = cl y) : x = y := by
  obtain ⟨a⟩ := x
  obtain ⟨b⟩ := y
  exact congrArg Str.mk (Array.ext' h)
theorem cl_len (z : Str) : z.length = (cl z).length := by
  show z.cps.size = z.cps.toList.length
  rw [Array.length_toList]
theorem cl_cut (z : Str) (lo hi : Option Int) : cl (cutS z lo hi) = ((cl z).drop (HT.sIx z.length 0 lo)).take (HT.sIx z.length z.length hi - HT.sIx z.length 0 lo) := by
  unfold cl cutS
  simp
theorem cl_one (c : Nat) : cl ⟨#[c]⟩ = [c] := rfl
theorem cl_join0 : ∀ ys : List Str, cl (Txt.join "" ys) = (ys.map cl).flatten := by
  intro ys
  have h := TL.tl_join "" ys
  rw [TL.join_eq]
  have e : ∀ l : List (List Nat), TL.joinL [] l = l.flatten := by
    intro l
    induction l with
    | nil => rfl
    | cons a r ih =>
      cases r with
      | nil => simp [TL.joinL]
      | cons b r => 
        simp only [TL.joinL, List.nil_append, List.flatten_cons]
        rw [ih]
        simp
  exact h.trans (e _)
def sgn (i : Nat) : Nat := if i < 26 then 97 + i else 48 + (i - 26)
theorem sgn_at : ∀ i, i < 36 → (cl "abcdefghijklmnopqrstuvwxyz0123456789")[i]? = some (sgn i) := by decide +kernel
theorem sgn_inj {i j : Nat} (hi : i < 36) (hj : j < 36) (h : sgn i = sgn j) : i = j := by
  unfold sgn at h
  split at h <;> split at h <;> omega
def isLt (c : Nat) : Prop := 97 ≤ c ∧ c ≤ 122
def isSg (c : Nat) : Prop := isLt c ∨ (48 ≤ c ∧ c ≤ 57)
theorem sgn_sg {i : Nat} (h : i < 36) : isSg (sgn i) := by
  unfold isSg isLt sgn
  split <;> omega
theorem sgn_lt {i : Nat} (h : i < 26) : isLt (sgn i) := by
  unfold isLt sgn
  rw [if_pos h]
  omega
/-- a name by its signs -/
def NameOk (l : List Nat) : Prop := 1 ≤ l.length ∧ l.length ≤ 8 ∧ (∀ c ∈ l, isSg c) ∧ ∀ c, l.head? = some c → isLt c
instance (c : Nat) : Decidable (isLt c) := by unfold isLt; infer_instance
instance (c : Nat) : Decidable (isSg c) := by unfold isSg; infer_instance
def nameB (l : List Nat) : Bool := decide (1 ≤ l.length) && decide (l.length ≤ 8) && l.all (fun c => decide (isSg c)) && (l.take 1).all (fun c => decide (isLt c))
theorem nameB_ok {l : List Nat} (h : nameB l = true) : NameOk l := by
  unfold nameB at h
  simp only [Bool.and_eq_true, decide_eq_true_eq, List.all_eq_true] at h
  obtain ⟨⟨⟨h1, h2⟩, h3⟩, h4⟩ := h
  refine ⟨h1, h2, h3, fun c hc => h4 c ?_⟩
  cases l with
  | nil => cases hc
  | cons a r => cases hc; simp
/-! ### names -/
/-- the word with the sign c at its place t -/
def putAt (w : List Nat) (t c : Nat) : List Nat := w.take t ++ [c] ++ w.drop (t + 1)
theorem putAt_len {w : List Nat} {t c : Nat} (h : t < w.length) : (putAt w t c).length = w.length := by
  unfold putAt
  simp
  omega
theorem putAt_get {w : List Nat} {t c : Nat} (h : t < w.length) : (putAt w t c)[t]? = some c := by
  unfold putAt
  rw [List.append_assoc, List.getElem?_append_right (by simp; omega)]
  simp
  have : t - min t w.length = 0 := by omega
  rw [this]
  rfl
theorem putAt_sg {w : List Nat} {t c : Nat} (h : ∀ x ∈ w, isSg x) (hc : isSg c) : ∀ x ∈ putAt w t c, isSg x := by
  intro x hx
  unfold putAt at hx
  simp only [List.mem_append, List.mem_singleton] at hx
  rcases hx with (hx | rfl) | hx
  · exact h x (List.mem_of_mem_take hx)
  · exact hc
  · exact h x (List.mem_of_mem_drop hx)
theorem putAt_head {w : List Nat} {t c : Nat} (hl : t < w.length) (h : ∀ x, w.head? = some x → isLt x) (hc : t = 0 → isLt c) : ∀ x, (putAt w t c).head? = some x → isLt x := by
  intro x hx
  unfold putAt at hx
  cases t with
  | zero =>
    simp at hx
    rw [← hx]
    exact hc rfl
  | succ t =>
    cases w with
    | nil => exact absurd hl (by simp)
    | cons a r =>
      simp at hx
      exact h x (by simp [hx])
theorem take_name {l : List Nat} {n : Nat} (h1 : 1 ≤ l.length) (h2 : l.length ≤ 8) (h3 : ∀ c ∈ l, isSg c) (h4 : ∀ c, l.head? = some c → isLt c) (hn : 1 ≤ n) : NameOk (l.take n) := by
  refine ⟨by rw [List.length_take]; omega, by rw [List.length_take]; omega, fun c hc => h3 c (List.mem_of_mem_take hc), fun c hc => h4 c ?_⟩
  cases l with
  | nil => simp at hc
  | cons a r =>
    obtain ⟨m, rfl⟩ : ∃ m, n = m + 1 := ⟨n - 1, by omega⟩
    simpa using hc
theorem words_special : Txt.split "free to at sent there cut done off call told passed on open shut grade bare held" " " = (["free", "to", "at", "sent", "there", "cut", "done", "off", "call", "told", "passed", "on", "open", "shut", "grade", "bare", "held"] : List String).map Str.ofString := by decide +kernel
def specials : List Str := (["free", "to", "at", "sent", "there", "cut", "done", "off", "call", "told", "passed", "on", "open", "shut", "grade", "bare", "held", "moved", "stands", "drives"] : List String).map Str.ofString
theorem specials_ok : ∀ z ∈ specials, NameOk (cl z) := by
  intro z hz
  have h : ∀ z ∈ specials, nameB (cl z) = true := by decide +kernel
  exact nameB_ok (h z hz)
/-! ### towns -/
def mV : Option Int → V
  | none => .non
  | some i => .int i
structure Rd where
  one : Str
  two : Str
  there : Option Int
  back : Option Int
structure Tn where
  places : List Str
  roads : List Rd
  stands : List Str
  reach : Int
def minOk (t : Option Int) : Prop := ∀ i, t = some i → 1 ≤ i ∧ i ≤ 60
structure RdOk (ys : List Str) (r : Rd) : Prop where
  one : r.one ∈ ys
  two : r.two ∈ ys
  ne : r.one ≠ r.two
  there : minOk r.there
  back : minOk r.back
  some : r.there ≠ none ∨ r.back ≠ none
structure TnOk (T : Tn) : Prop where
  p1 : 1 ≤ T.places.length
  p10 : T.places.length ≤ 10
  nd : T.places.Nodup
  nm : ∀ y ∈ T.places, NameOk (cl y)
  r18 : T.roads.length ≤ 18
  rd : ∀ r ∈ T.roads, RdOk T.places r
  s1 : 1 ≤ T.stands.length
  s5 : T.stands.length ≤ 5
  sn : T.stands.Nodup
  sp : ∀ y ∈ T.stands, y ∈ T.places
  re0 : 0 ≤ T.reach
  re1 : T.reach ≤ 120
def RdAt (H : Hp) (p : Addr) (r : Rd) : Prop := Tup H p [.str r.one, .str r.two, mV r.there, mV r.back]
/-- the roads' tuples, one by one -/
inductive RdsAt (H : Hp) : List V → List Rd → Prop
  | nil : RdsAt H [] []
  | cons {p : Addr} {r : Rd} {vs : List V} {rs : List Rd} : RdAt H p r → RdsAt H vs rs → RdsAt H (.ref p :: vs) (r :: rs)
def TnAt (H : Hp) (a : Addr) (T : Tn) : Prop := ∃ ap ar as vs, Tup H a [.ref ap, .ref ar, .ref as, .int T.reach] ∧ Tup H ap (T.places.map V.str) ∧ Tup H ar vs ∧ RdsAt H vs T.roads ∧ Tup H as (T.stands.map V.str)
/-- what is changed is no tuple -/
def NoTup (S : List Addr) (H : Hp) : Prop := ∀ a xs, Tup H a xs → a ∉ S
theorem noTup0 {H : Hp} : NoTup [] H := fun _ _ _ => nin0
theorem noTup1 {H : Hp} {l : Addr} {xs : List V} (h : H l = some (.lst xs)) : NoTup [l] H := fun _ _ t => nin1 (t.neL h)
theorem noTupNew {H : Hp} {l : Addr} (h : H l = none) : NoTup [l] H := fun a _ t => nin1 fun z => by
  obtain ⟨o, e⟩ := t.there
  rw [z, h] at e
  cases e
theorem RdAt.keep {S : List Addr} {H H' : Hp} {p : Addr} {r : Rd} (h : RdAt H p r) (k : Keep S H H') (n : NoTup S H) : RdAt H' p r := Tup.keep h k (n _ _ h)
theorem RdsAt.keep {S : List Addr} {H H' : Hp} (k : Keep S H H') (n : NoTup S H) : ∀ {vs : List V} {rs : List Rd}, RdsAt H vs rs → RdsAt H' vs rs
  | _, _, .nil => .nil
  | _, _, .cons h q => .cons (h.keep k n) (RdsAt.keep k n q)
theorem TnAt.keep {S : List Addr} {H H' : Hp} {a : Addr} {T : Tn} (h : TnAt H a T) (k : Keep S H H') (n : NoTup S H) : TnAt H' a T := by
  obtain ⟨ap, ar, as, vs, h1, h2, h3, h4, h5⟩ := h
  exact ⟨ap, ar, as, vs, h1.keep k (n _ _ h1), h2.keep k (n _ _ h2), h3.keep k (n _ _ h3), h4.keep k n, h5.keep k (n _ _ h5)⟩
theorem RdsAt.len {H : Hp} : ∀ {vs : List V} {rs : List Rd}, RdsAt H vs rs → vs.length = rs.length
  | _, _, .nil => rfl
  | _, _, .cons _ q => congrArg (· + 1) q.len
theorem RdsAt.snoc {H : Hp} {p : Addr} {r : Rd} (h : RdAt H p r) : ∀ {vs : List V} {rs : List Rd}, RdsAt H vs rs → RdsAt H (vs ++ [.ref p]) (rs ++ [r])
  | _, _, .nil => .cons h .nil
  | _, _, .cons h' q => .cons h' (RdsAt.snoc h q)
theorem RdsAt.get {H : Hp} : ∀ {vs : List V} {rs : List Rd} {i : Nat} {r : Rd}, RdsAt H vs rs → rs[i]? = some r → ∃ p, vs[i]? = some (.ref p) ∧ RdAt H p r
  | _, _, _, _, .nil, e => by simp at e
  | _, _, 0, _, .cons (p := p) h _, e => by
    simp at e
    subst e
    exact ⟨p, rfl, h⟩
  | _, _, i + 1, _, .cons _ q, e => by
    obtain ⟨p, h1, h2⟩ := RdsAt.get (i := i) q (by simpa using e)
    exact ⟨p, by simpa using h1, h2⟩
theorem turned_sub {ys : List Str} {a k : Nat} (ha : a ≤ ys.length) (hk : k ≤ ys.length) : (((ys ++ ys).drop a).take k).Sublist (ys.drop a ++ ys.take a) := by
  rw [List.drop_append_of_le_length ha, List.take_append]
  refine List.Sublist.append (List.take_sublist _ _) ?_
  have : k - (ys.drop a).length ≤ a := by rw [List.length_drop]; omega
  exact List.IsPrefix.sublist (List.take_prefix_take_left this)
theorem turned_nodup {ys : List Str} {a k : Nat} (h : ys.Nodup) (ha : a ≤ ys.length) (hk : k ≤ ys.length) : (((ys ++ ys).drop a).take k).Nodup := by
  have e : (ys.drop a ++ ys.take a).Nodup := by
    have h2 := h
    rw [← List.take_append_drop a ys, List.nodup_append] at h2
    rw [List.nodup_append]
    exact ⟨h2.2.1, h2.1, fun x hx y hy e => h2.2.2 y hy x hx e.symm⟩
  exact e.sublist (turned_sub ha hk)
theorem turned_mem {ys : List Str} {a k : Nat} : ∀ y ∈ ((ys ++ ys).drop a).take k, y ∈ ys := fun y hy => by
  have := List.mem_of_mem_drop (List.mem_of_mem_take hy)
  simpa using this
/-! rows of any kind -/
inductive Rws {α : Type} (f : α → List V) (H : Hp) : List V → List α → Prop
  | nil : Rws f H [] []
  | cons {p : Addr} {r : α} {vs : List V} {rs : List α} : Tup H p (f r) → Rws f H vs rs → Rws f H (.ref p :: vs) (r :: rs)
section
variable {α : Type} {f : α → List V} {H H' : Hp}
theorem Rws.keep {S : List Addr} (k : Keep S H H') (n : NoTup S H) : ∀ {vs : List V} {rs : List α}, Rws f H vs rs → Rws f H' vs rs
  | _, _, .nil => .nil
  | _, _, .cons h q => .cons (h.keep k (n _ _ h)) (Rws.keep k n q)
theorem Rws.len : ∀ {vs : List V} {rs : List α}, Rws f H vs rs → vs.length = rs.length
  | _, _, .nil => rfl
  | _, _, .cons _ q => congrArg (· + 1) q.len
theorem Rws.snoc {p : Addr} {r : α} (h : Tup H p (f r)) : ∀ {vs : List V} {rs : List α}, Rws f H vs rs → Rws f H (vs ++ [.ref p]) (rs ++ [r])
  | _, _, .nil => .cons h .nil
  | _, _, .cons h' q => .cons h' (Rws.snoc h q)
theorem Rws.get : ∀ {vs : List V} {rs : List α} {i : Nat} {r : α}, Rws f H vs rs → rs[i]? = some r → ∃ p, vs[i]? = some (.ref p) ∧ Tup H p (f r)
  | _, _, _, _, .nil, e => by simp at e
  | _, _, 0, _, .cons (p := p) h _, e => by
    simp at e
    subst e
    exact ⟨p, rfl, h⟩
  | _, _, i + 1, _, .cons _ q, e => by
    obtain ⟨p, h1, h2⟩ := Rws.get (i := i) q (by simpa using e)
    exact ⟨p, by simpa using h1, h2⟩
end
/-! ### things in a row -/
abbrev EI {α β : Type} (R : α → β → Prop) (vs : List α) (rs : List β) : Prop := PySem.W.EachIs R vs rs
theorem ei_snoc {α β : Type} {R : α → β → Prop} {v : α} {r : β} (h : R v r) : ∀ {vs : List α} {rs : List β}, EI R vs rs → EI R (vs ++ [v]) (rs ++ [r])
  | _, _, .nil => .cons h .nil
  | _, _, .cons h' q => .cons h' (ei_snoc h q)
theorem ei_get {α β : Type} {R : α → β → Prop} : ∀ {vs : List α} {rs : List β} {i : Nat} {r : β}, EI R vs rs → rs[i]? = some r → ∃ v, vs[i]? = some v ∧ R v r
  | _, _, _, _, .nil, e => by simp at e
  | _, _, 0, _, .cons (a := p) h _, e => by
    simp at e
    subst e
    exact ⟨p, rfl, h⟩
  | _, _, i + 1, _, .cons _ q, e => by
    obtain ⟨p, h1, h2⟩ := ei_get (i := i) q (by simpa using e)
    exact ⟨p, by simpa using h1, h2⟩
theorem ei_got {α β : Type} {R : α → β → Prop} {vs : List α} {rs : List β} {i : Nat} {v : α} (h : EI R vs rs) (e : vs[i]? = some v) : ∃ r, rs[i]? = some r ∧ R v r := by
  have hi : i < rs.length := by rw [← h.length]; exact (List.getElem?_eq_some_iff.mp e).1
  obtain ⟨v', h1, h2⟩ := ei_get h (List.getElem?_eq_getElem hi)
  rw [e] at h1
  cases h1
  exact ⟨_, List.getElem?_eq_getElem hi, h2⟩
def NoT (S : List Addr) (H : Hp) : Prop := ∀ a ∈ S, H a = none ∨ ∃ xs, H a = some (.lst xs)
theorem sqt_keep {K : PySem.W.Frag} {S : List Addr} {H H' : Hp} {a : Addr} {xs : List V} (h : SqT K H a xs) (k : Keep S H H') (n : NoT S H) : SqT K H' a xs := by
  have na : ∀ {o : HO}, H a = some o → (∀ ys, o ≠ .lst ys) → a ∉ S := fun e ne hm => by
    rcases n a hm with z | ⟨ys, z⟩
    · rw [e] at z; cases z
    · rw [e] at z; cases z; exact ne _ rfl
  rcases h with (h | ⟨o, h⟩) | h
  · exact .inl (.inl (k _ _ (na h fun ys z => nomatch z) h))
  · exact .inl (.inr ⟨o, k _ _ (na h fun ys z => nomatch z) h⟩)
  · exact .inr h
theorem noT0 {H : Hp} : NoT [] H := fun _ h => (List.not_mem_nil h).elim
theorem noT1 {H : Hp} {l : Addr} {xs : List V} (h : H l = some (.lst xs)) : NoT [l] H := fun a ha => .inr ⟨xs, by rw [List.mem_singleton.mp ha]; exact h⟩
theorem noTn {H : Hp} {l : Addr} (h : H l = none) : NoT [l] H := fun a ha => .inl (by rw [List.mem_singleton.mp ha]; exact h)
theorem NoT.tup {S : List Addr} {H : Hp} (n : NoT S H) : NoTup S H := fun a xs t ha => by
  rcases n a ha with z | ⟨ys, z⟩
  · obtain ⟨o, e⟩ := t.there
    rw [e] at z; cases z
  · exact t.neL z rfl
/-- a list or a tuple that stands still -/
def Sq (H : Hp) (a : Addr) (xs : List V) : Prop := H a = some (.lst xs) ∨ Tup H a xs
theorem Sq.keep {S : List Addr} {H H' : Hp} {a : Addr} {xs : List V} (h : Sq H a xs) (k : Keep S H H') (n : a ∉ S) : Sq H' a xs := h.elim (fun h => .inl (k _ _ n h)) fun h => .inr (h.keep k n)
theorem Sq.there {H : Hp} {a : Addr} {xs : List V} (h : Sq H a xs) : ∃ o, H a = some o := h.elim (fun h => ⟨_, h⟩) fun h => h.there
/-- a comprehension over a list or tuple of things -/
theorem g_CE {K : PySem.W.Frag} {α : Type} {RR : Hp → V → α → Prop} {g : TG} {tt : TT} {te : TE} {vs : List Nat} {σ : L2.St} {H1 : Hp} {Q : VK} {a : Addr} {xs : List V} {rs : List α} (hx : Sq H1 a xs) (he : EI (RR H1) xs rs)
    (hk : ∀ H H' x r, RR H x r → Keep [] H H' → RR H' x r) (P : Nat → Hp → List V → Prop) (p0 : ∀ D H2, H1 D = none → Keep [] H1 H2 → P 0 H2 [])
    (ps : ∀ D i x r H acc (R : VK) (R0 : Hp → Prop), H1 D = none → rs[i]? = some r → Keep [] H1 H → H D = some (.lst acc) → RR H x r → P i H acc →
      (∀ y H4, Keep [] H H4 → acc.length < sizeLine → (∀ H5, Keep [D] H4 H5 → P (i + 1) H5 (acc ++ [y])) → R y H4) → (∀ H3, Keep [] H H3 → P (i + 1) H3 acc → R0 H3) →
      g x (wipe σ vs) H fun σ2 H2 => wipe σ2 vs = wipe σ vs ∧ tt σ2 H2 fun b H3 => if b = true then te σ2 H3 R else R0 H3)
    (pd : ∀ D H acc, H1 D = none → Keep [] H1 H → H D = some (.lst acc) → P rs.length H acc → Q (.ref D) H) : CU K g tt te vs σ Q (.ref a) H1 := by
  have L : CLoop [] xs.length (fun i => xs.getD i .non) g tt te vs σ H1 Q := by
    refine ⟨P, p0, fun D i H acc R R0 nD hi k e p hR hR0 => ?_, fun D H acc n k e p => pd D H acc n k e (by rw [← he.length]; exact p)⟩
    obtain ⟨r, e1, e2⟩ := ei_got he (List.getElem?_eq_getElem hi)
    have e3 : xs.getD i .non = xs[i] := by rw [List.getD_eq_getElem?_getD, List.getElem?_eq_getElem hi]; rfl
    show g (xs.getD i .non) _ _ _
    rw [e3]
    exact ps D i _ r H acc R R0 nD e1 k e (hk _ _ _ _ e2 k) p hR hR0
  exact hx.elim (fun h => g_CL (S := []) (fun _ h => (List.not_mem_nil h).elim) h nin0 L) fun h => g_CT (S := []) (fun _ h => (List.not_mem_nil h).elim) h nin0 L
/-- a for over a list or tuple of things -/
theorem g_FEs {K : PySem.W.Frag} {α : Type} {RR : Hp → V → α → Prop} {g : TG} {tb : TS} {D : Ends} {σ : L2.St} {H1 : Hp} {a : Addr} {xs : List V} {rs : List α} (S : List Addr) (hx : Sq H1 a xs) (na : a ∉ S) (he : EI (RR H1) xs rs)
    (hk : ∀ H' x r, RR H1 x r → Keep S H1 H' → RR H' x r) (Pv : Nat → L2.St → Hp → Prop) (h0 : Pv 0 σ H1)
    (hs : ∀ i x r σ H, rs[i]? = some r → Keep S H1 H → RR H x r → Pv i σ H → g x σ H fun σ2 H2 => tb { D with nx := fun σ' H' => Keep S H1 H' ∧ Pv (i + 1) σ' H', ct := fun σ' H' => Keep S H1 H' ∧ Pv (i + 1) σ' H', bk := D.nx } σ2 H2)
    (hd : ∀ σ H, Keep S H1 H → Pv rs.length σ H → D.nx σ H) : FU K g tb D σ (.ref a) H1 := by
  have hl := he.length
  have st : ∀ (i : Nat) (x : V) (σ : L2.St) (H : Hp), xs[i]? = some x → (Keep S H1 H ∧ Pv i σ H) → g x σ H fun σ2 H2 => tb { D with nx := fun σ' H' => Keep S H1 H' ∧ Pv (i + 1) σ' H', ct := fun σ' H' => Keep S H1 H' ∧ Pv (i + 1) σ' H', bk := D.nx } σ2 H2 := fun i x σ H ex ⟨k, p⟩ => by
    obtain ⟨r, e1, e2⟩ := ei_got he ex
    exact hs i x r σ H e1 k (hk _ _ _ e2 k) p
  rcases hx with h | h
  · exact g_FL (fun i σ H => Keep S H1 H ∧ Pv i σ H) (lst_sq h) ⟨Keep.refl _ _, h0⟩ (fun i σ H _ p => lst_sq (p.1 _ _ na h)) (fun i x σ H ex p => st i x σ H ex p) fun σ H p => hd σ H p.1 (by rw [← hl]; exact p.2)
  · exact g_FT (fun i σ H => Keep S H1 H ∧ Pv i σ H) h ⟨Keep.refl _ _, h0⟩ (fun i σ H _ p => h.keep p.1 na) (fun i x σ H ex p => st i x σ H ex p) fun σ H p => hd σ H p.1 (by rw [← hl]; exact p.2)



/-! ### words and minutes of the pen -/
theorem let_at : ∀ i, i < 26 → (cl "abcdefghijklmnopqrstuvwxyz")[i]? = some (sgn i) := by decide +kernel
theorem let_nsg : ("abcdefghijklmnopqrstuvwxyz" ++ "0123456789" : Str) = "abcdefghijklmnopqrstuvwxyz0123456789" := by decide +kernel
theorem g_let {K : PySem.W.Frag} {H : Hp} {Q : VK} {r : Int} (h0 : 0 ≤ r) (h1 : r < 26) (q : Q (.str ⟨#[sgn r.toNat]⟩) H) : uIx K (.str "abcdefghijklmnopqrstuvwxyz") (.int r) H Q :=
  g_ixS (by decide +kernel) (at_lit r.toNat (by omega) (let_at r.toNat (by omega))) q
theorem g_sgn {K : PySem.W.Frag} {H : Hp} {Q : VK} {r : Int} (h0 : 0 ≤ r) (h1 : r < 36) (q : Q (.str ⟨#[sgn r.toNat]⟩) H) : uIx K (.str "abcdefghijklmnopqrstuvwxyz0123456789") (.int r) H Q :=
  g_ixS (by decide +kernel) (at_lit r.toNat (by omega) (sgn_at r.toNat (by omega))) q
theorem head_app {l m : List Nat} (h : 1 ≤ l.length) : (l ++ m).head? = l.head? := by
  cases l with
  | nil => simp at h
  | cons a r => rfl
def spWordP : Sp := fun vs H Q _ => ∃ (p : Addr) (n k : Nat), vs = [.ref p, .int (n : Nat)] ∧ 1 ≤ n ∧ n ≤ 8 ∧ Pen H p (k + 8) ∧ ∀ (z : Str) H', NameOk (cl z) → z.length = n → Keep [p] H H' → Pen H' p k → Q (.str z) H'
theorem rd_wordP (K : PySem.W.Frag) : ∀ vs H Q E, spWordP vs H Q E → run (t__law_word K spDraw) (L2.start N__law_word vs) H Q := by
  rintro _ H Q _ ⟨p, n, k, rfl, n1, n8, hp, q⟩
  show run (t__law_word K spDraw) [some (.ref p), some (.int (n : Nat)), none, none, none] H Q
  unfold t__law_word
  walk_at "sx"
  refine ⟨p, 26, k + 7, rfl, by decide, by decide, hp, fun r H1 r0 r1 k1 hp1 => g_let r0 r1 ?_⟩
  walk_at "sx"
  refine g_FR1 (by omega) (by omega) ⟨fun i σ H' => ∃ (z : Str) (y : Option V), σ = [some (.ref p), some (.int (n : Nat)), some (.str "abcdefghijklmnopqrstuvwxyz"), some (.str z), y] ∧ (cl z).length = i + 1 ∧ (∀ c ∈ cl z, isSg c) ∧ (∀ c, (cl z).head? = some c → isLt c) ∧ Keep [p] H H' ∧ Pen H' p (k + 7 - i), ⟨⟨#[sgn r.toNat]⟩, _, rfl, rfl, fun c hc => by rw [List.mem_singleton.mp (show c ∈ [sgn r.toNat] from hc)]; exact .inl (sgn_lt (by omega)), fun c hc => by
      have : some (sgn r.toNat) = some c := hc
      rw [← Option.some.inj this]; exact sgn_lt (by omega), k1, hp1⟩, ?_, ?_⟩
  · rintro i σ H2 hi ⟨z, y, rfl, ln, sg', hd, k2, hp2⟩
    unfold t__law_word_b1
    walk_at "sx"
    rw [let_nsg]
    refine ⟨by decide +kernel, p, 36, k + 7 - (i + 1), rfl, by decide, by decide, hp2.less (by omega), fun r H3 r0 r1 k3 hp3 => g_sgn r0 r1 ?_⟩
    walk_at "sx"
    have lz : z.length = i + 1 := by rw [cl_len]; exact ln
    refine ⟨by show z.length + 1 ≤ _; exact len_le (by omega), _, _, rfl, ?_, ?_, ?_, k2.trans k3, hp3⟩
    · rw [cl_app, List.length_append, ln]; rfl
    · intro c hc
      rw [cl_app] at hc
      rcases List.mem_append.mp hc with hc | hc
      · exact sg' c hc
      · rw [List.mem_singleton.mp (show c ∈ [sgn r.toNat] from hc)]
        exact sgn_sg (by omega)
    · intro c hc
      rw [cl_app, head_app (by omega)] at hc
      exact hd c hc
  · rintro σ H2 ⟨z, y, rfl, ln, sg', hd, k2, hp2⟩
    unfold t__law_word_r1
    walk_at "sx"
    exact q z H2 ⟨by omega, by omega, sg', hd⟩ (by rw [cl_len]; omega) k2 (hp2.less (by omega))
def mDp : Option Int → PyData
  | none => .none
  | some i => .int i
theorem dp_mVp {K : PySem.W.Frag} {H : Hp} (o : Option Int) : Dp K H (mV o) (mDp o) := by
  cases o with
  | none => exact .non
  | some i => exact .int i
/-- two minutes, not both missing -/
def spMinP : Sp := fun vs H Q _ => ∃ (p : Addr) (k : Nat), vs = [.ref p] ∧ Pen H p (k + 6) ∧ ∀ (m1 m2 : Option Int) t H', minOk m1 → minOk m2 → (m1 ≠ none ∨ m2 ≠ none) → Keep [p] H H' → Pen H' p k → Tup H' t [mV m1, mV m2] → Q (.ref t) H'


/-! ### names of the pen -/
def kindN (pick at' L F k : Nat) (y : Str) : Prop :=
  (pick = 0 ∧ (cl y)[at']? = some (sgn ((F + 5 * k) % L))) ∨ (pick = 1 ∧ (cl y)[0]? = some (sgn ((F + 5 * k) % 26))) ∨ (pick = 2 ∧ cl y = List.replicate (k % 8 + 1) (sgn ((F + k / 8) % 26)))
theorem kind_apart {pick at' L F a b : Nat} {y : Str} (hL : L = 26 ∨ L = 36) (hab : a < b) (hb : b < 13) (h1 : kindN pick at' L F a y) (h2 : kindN pick at' L F b y) : False := by
  have m26 : ∀ x : Nat, x % 26 < 36 := fun x => by omega
  rcases h1 with ⟨p1, e1⟩ | ⟨p1, e1⟩ | ⟨p1, e1⟩ <;> rcases h2 with ⟨p2, e2⟩ | ⟨p2, e2⟩ | ⟨p2, e2⟩ <;> first | omega | skip
  · rw [e1] at e2
    have := sgn_inj (by rcases hL with rfl | rfl <;> omega) (by rcases hL with rfl | rfl <;> omega) (Option.some.inj e2)
    rcases hL with rfl | rfl <;> omega
  · rw [e1] at e2
    have := sgn_inj (m26 _) (m26 _) (Option.some.inj e2)
    omega
  · rw [e1] at e2
    have hl := congrArg List.length e2
    rw [List.length_replicate, List.length_replicate] at hl
    have hh := congrArg List.head? e2
    rw [List.head?_replicate, List.head?_replicate, if_neg (by omega), if_neg (by omega)] at hh
    have := sgn_inj (m26 _) (m26 _) (Option.some.inj hh)
    omega
theorem ins_perm {α : Type} (ys : List α) (i : Nat) (z : α) : (ys.take i ++ [z] ++ ys.drop i).Perm (z :: ys) := by
  rw [List.append_assoc]
  refine (List.perm_middle (l₁ := ys.take i) (l₂ := ys.drop i) (a := z)).trans ?_
  rw [List.take_append_drop]
theorem map_ins (ys : List Str) (i : Nat) (z : Str) : (ys.map V.str).take i ++ [V.str z] ++ (ys.map V.str).drop i = (ys.take i ++ [z] ++ ys.drop i).map V.str := by
  rw [List.map_append, List.map_append, List.map_take, List.map_drop]
  rfl
theorem cl_rep (c n : Nat) : cl ⟨(List.replicate n (#[c] : Array Nat)).foldl (· ++ ·) #[]⟩ = List.replicate n c := by
  have key : ∀ (n : Nat) (acc : Array Nat), ((List.replicate n (#[c] : Array Nat)).foldl (· ++ ·) acc).toList = acc.toList ++ List.replicate n c := by
    intro n
    induction n with
    | zero => intro acc; simp
    | succ n ih =>
      intro acc
      rw [List.replicate_succ, List.foldl_cons, ih]
      simp [List.replicate_succ]
  show ((List.replicate n (#[c] : Array Nat)).foldl (· ++ ·) #[]).toList = _
  rw [key]
  simp
theorem name_rep {c n : Nat} (h : isLt c) (h1 : 1 ≤ n) (h8 : n ≤ 8) : NameOk (List.replicate n c) := by
  refine ⟨by rw [List.length_replicate]; exact h1, by rw [List.length_replicate]; exact h8, fun x hx => by rw [(List.mem_replicate.mp hx).2]; exact .inl h, fun x hx => ?_⟩
  rw [List.head?_replicate, if_neg (by omega)] at hx
  rw [← Option.some.inj hx]; exact h
theorem cut_pre (z : Str) (n : Nat) : cl (cutS z none (some (n : Int))) = (cl z).take n := by
  rw [cl_cut, HT.sIx_none, HT.sIx_nat, List.drop_zero, Nat.sub_zero, cl_len]
  by_cases h : n ≤ (cl z).length
  · rw [Nat.min_eq_left h]
  · rw [Nat.min_eq_right (by omega), List.take_of_length_le (Nat.le_refl _), List.take_of_length_le (by omega)]
theorem cut_suf (z : Str) (n : Nat) : cl (cutS z (some (n : Int)) none) = (cl z).drop n := by
  rw [cl_cut, HT.sIx_none, HT.sIx_nat, cl_len]
  by_cases h : n ≤ (cl z).length
  · rw [Nat.min_eq_left h, List.take_of_length_le (by rw [List.length_drop]; omega)]
  · rw [Nat.min_eq_right (by omega), Nat.sub_self, List.take_zero, List.drop_eq_nil_of_le (by omega)]
structure Sgs (z : Str) (L : Nat) : Prop where
  l : z.length = L
  a : ∀ i, i < L → (cl z)[i]? = some (sgn i)
theorem sgs36 : Sgs "abcdefghijklmnopqrstuvwxyz0123456789" 36 := ⟨by decide +kernel, sgn_at⟩
theorem sgs26 : Sgs "abcdefghijklmnopqrstuvwxyz" 26 := ⟨by decide +kernel, let_at⟩
def spNamesP : Sp := fun vs H Q _ => ∃ (p : Addr) (m k : Nat), vs = [.ref p, .int (m : Nat)] ∧ 1 ≤ m ∧ m ≤ 13 ∧ Pen H p (k + 300) ∧ ∀ l H' (ys : List Str), H l = none → Keep [p] H H' → Pen H' p k → H' l = some (.lst (ys.map V.str)) → ys.length = m → (∀ y ∈ ys, NameOk (cl y)) → ys.Nodup → Q (.ref l) H'
theorem pen_ne {H : Hp} {p l : Addr} {k : Nat} (h : Pen H p k) (n : H l = none) : l ≠ p := fun z => by
  obtain ⟨xs, hx⟩ := h.at
  rw [z] at n
  rw [n] at hx
  exact nomatch hx
theorem Pen.keepL {H H' : Hp} {p l : Addr} {k : Nat} (h : Pen H p k) (kk : Keep [l] H H') (n : l ≠ p) : Pen H' p k := by
  obtain ⟨d, c, nn, h1, h2⟩ := h
  exact ⟨d, c, nn, kk _ _ (nin1 n.symm) h1, h2⟩
theorem rd_namesP (K : PySem.W.Frag) : ∀ vs H Q E, spNamesP vs H Q E → run (t__law_names K spDraw spWordP) (L2.start N__law_names vs) H Q := by
  rintro _ H Q _ ⟨p, m, k, rfl, m1, m10, hp, q⟩
  show run (t__law_names K spDraw spWordP) [some (.ref p), some (.int (m : Nat)), none, none, none, none, none, none, none, none, none, none, none] H Q
  unfold t__law_names
  walk_at "sx"
  refine ⟨p, 3, k + 299, rfl, by decide, by decide, hp, fun pk H1 pk0 pk1 k1 hp1 => ?_⟩
  walk_at "sx"
  refine ⟨p, 8, k + 298, rfl, by decide, by decide, hp1, fun s H2 s0 s1 k2 hp2 => ?_⟩
  walk_at "sx"
  obtain ⟨size, hs⟩ : ∃ n : Nat, 1 + s = (n : Int) := ⟨(1 + s).toNat, by omega⟩
  rw [hs]
  refine ⟨p, size, k + 290, rfl, by omega, by omega, hp2, fun base H3 nb lb k3 hp3 => ?_⟩
  walk_at "sx"
  refine ⟨p, _, k + 289, rfl, by omega, by omega, hp3, fun at0 H4 a0 a1 k4 hp4 => ?_⟩
  walk_at "sx"
  rw [let_nsg]
  refine ⟨by decide +kernel, by walk_at "sz", fun sl H5 n5 k5 e5 => g_eq rfl ?_⟩
  walk_at "sx"
  obtain ⟨z, L, hz, hS, hL, h0⟩ : ∃ (z : Str) (L : Nat), atI [V.str "abcdefghijklmnopqrstuvwxyz0123456789", V.str "abcdefghijklmnopqrstuvwxyz"] (if at0 = 0 then 1 else 0) = some (.str z) ∧ Sgs z L ∧ (L = 26 ∨ L = 36) ∧ (at0 = 0 → L = 26) := by
    by_cases h : at0 = 0
    · rw [if_pos h]; exact ⟨_, 26, rfl, sgs26, .inl rfl, fun _ => rfl⟩
    · rw [if_neg h]; exact ⟨_, 36, rfl, sgs36, .inr rfl, fun c => (h c).elim⟩
  refine g_ixL e5 hz (g_lenS (by rw [hS.l]; exact len_le (by omega)) ?_)
  rw [hS.l]
  refine ⟨p, _, k + 288, rfl, by omega, by omega, hp4.keep k5, fun F0 H6 f0 f1 k6 hp6 => ?_⟩
  refine ⟨by walk_at "sz", fun fl H7 n7 k7 e7 => ?_⟩
  obtain ⟨F, rfl⟩ : ∃ F : Nat, F0 = (F : Int) := ⟨F0.toNat, by omega⟩
  obtain ⟨pick, rfl⟩ : ∃ n : Nat, pk = (n : Int) := ⟨pk.toNat, by omega⟩
  obtain ⟨at', rfl⟩ : ∃ n : Nat, at0 = (n : Int) := ⟨at0.toNat, by omega⟩
  have nfp := pen_ne hp6 n7
  have k07 : Keep [p] H H7 := k1.trans (k2.trans (k3.trans (k4.trans (k5.all.trans (k6.trans k7.all)))))
  have nfl : H fl = none := (k1.trans (k2.trans (k3.trans (k4.trans (k5.all.trans k6))))).free (nin1 nfp) n7
  have lbase : (cl base).length = size := by rw [← cl_len]; exact lb
  refine g_FR1 (by omega) (by omega) ⟨fun i σ H' => ∃ (y10 y11 y12 : Option V) (ys : List Str), σ = [some (.ref p), some (.int (m : Nat)), some (.str "abcdefghijklmnopqrstuvwxyz"), some (.int (pick : Nat)), some (.int (size : Nat)), some (.str base), some (.int (at' : Nat)), some (.str z), some (.int (F : Nat)), some (.ref fl), y10, y11, y12] ∧ H' fl = some (.lst (ys.map V.str)) ∧ ys.length = i ∧ (∀ y ∈ ys, NameOk (cl y)) ∧ ys.Nodup ∧ (∀ y ∈ ys, ∃ j, j < i ∧ kindN pick at' L F j y) ∧ Pen H' p (k + 288 - 10 * i) ∧ (∀ b o, b ∉ [p] → H b = some o → H' b = some o),
    ⟨_, _, _, [], rfl, e7, rfl, fun _ h => (List.not_mem_nil h).elim, List.nodup_nil, fun _ h => (List.not_mem_nil h).elim, hp6.keep k7, fun b o hb h => k07 b o hb h⟩, ?_, ?_⟩
  · rintro i σ H8 hi ⟨y10, y11, y12, ys, rfl, ef, ly, oy, ndy, ky, hp8, kk⟩
    have hi10 : i < 13 := by omega
    have fin : ∀ (B C : L2.St → Hp → Prop) (w : Str) H9 y11, NameOk (cl w) → kindN pick at' L F i w → Keep [p] H8 H9 → Pen H9 p (k + 288 - 10 * i - 9) → t__law_names_r1 K spDraw spWordP { nx := fun σ' H' => ∃ (y10 y11 y12 : Option V) (ys : List Str), σ' = [some (.ref p), some (.int (m : Nat)), some (.str "abcdefghijklmnopqrstuvwxyz"), some (.int (pick : Nat)), some (.int (size : Nat)), some (.str base), some (.int (at' : Nat)), some (.str z), some (.int (F : Nat)), some (.ref fl), y10, y11, y12] ∧ H' fl = some (.lst (ys.map V.str)) ∧ ys.length = i + 1 ∧ (∀ y ∈ ys, NameOk (cl y)) ∧ ys.Nodup ∧ (∀ y ∈ ys, ∃ j, j < i + 1 ∧ kindN pick at' L F j y) ∧ Pen H' p (k + 288 - 10 * (i + 1)) ∧ (∀ b o, b ∉ [p] → H b = some o → H' b = some o), rt := Q, bk := B, ct := C } [some (.ref p), some (.int (m : Nat)), some (.str "abcdefghijklmnopqrstuvwxyz"), some (.int (pick : Nat)), some (.int (size : Nat)), some (.str base), some (.int (at' : Nat)), some (.str z), some (.int (F : Nat)), some (.ref fl), some (.int (i : Nat)), y11, some (.str w)] H9 := fun B C w H9 y11 ow kw k9 hp9 => by
      unfold t__law_names_r1
      walk_at "sx"
      have ef9 := k9 _ _ (nin1 nfp) ef
      refine ⟨.inl ⟨rfl, _, .inl (.inl ef9)⟩, g_lenL ef9 ?_⟩
      rw [List.length_map, ly]
      walk_at "sx"
      refine ⟨p, _, k + 288 - 10 * i - 10, rfl, by omega, by omega, hp9.less (by omega), fun v HA v0 v1 kA hpA => ?_⟩
      refine g_insert (kA _ _ (nin1 nfp) ef9) (by rw [List.length_map]; exact len_lt (by omega)) v0 (by omega) fun HB kB eB => ?_
      rw [map_ins] at eB
      have hpm := ins_perm ys v.toNat w
      have nw : w ∉ ys := fun h => by
        obtain ⟨j, hj, kj⟩ := ky w h
        exact kind_apart hL hj hi10 kj kw
      refine ⟨_, _, _, _, rfl, eB, ?_, fun y hy => ?_, ?_, fun y hy => ?_, (hpA.keepL kB nfp).less (by omega), fun b o hb h => ?_⟩
      · rw [hpm.length_eq, List.length_cons, ly]
      · rcases List.mem_cons.mp (hpm.mem_iff.mp hy) with rfl | hy
        · exact ow
        · exact oy y hy
      · exact hpm.nodup_iff.mpr (List.nodup_cons.mpr ⟨nw, ndy⟩)
      · rcases List.mem_cons.mp (hpm.mem_iff.mp hy) with rfl | hy
        · exact ⟨i, by omega, kw⟩
        · obtain ⟨j, hj, kj⟩ := ky y hy
          exact ⟨j, by omega, kj⟩
      · have nb : b ≠ fl := fun zz => by rw [zz, nfl] at h; cases h
        exact kB _ _ (nin1 nb) (kA _ _ hb (k9 _ _ hb (kk b o hb h)))
    have two : ∀ (B C : L2.St → Hp → Prop) (w : Str) H9 y11, (pick ≠ 2 → NameOk (cl w) ∧ kindN pick at' L F i w) → Keep [p] H8 H9 → Pen H9 p (k + 288 - 10 * i - 9) → t__law_names_r2 K spDraw spWordP { nx := fun σ' H' => ∃ (y10 y11 y12 : Option V) (ys : List Str), σ' = [some (.ref p), some (.int (m : Nat)), some (.str "abcdefghijklmnopqrstuvwxyz"), some (.int (pick : Nat)), some (.int (size : Nat)), some (.str base), some (.int (at' : Nat)), some (.str z), some (.int (F : Nat)), some (.ref fl), y10, y11, y12] ∧ H' fl = some (.lst (ys.map V.str)) ∧ ys.length = i + 1 ∧ (∀ y ∈ ys, NameOk (cl y)) ∧ ys.Nodup ∧ (∀ y ∈ ys, ∃ j, j < i + 1 ∧ kindN pick at' L F j y) ∧ Pen H' p (k + 288 - 10 * (i + 1)) ∧ (∀ b o, b ∉ [p] → H b = some o → H' b = some o), rt := Q, bk := B, ct := C } [some (.ref p), some (.int (m : Nat)), some (.str "abcdefghijklmnopqrstuvwxyz"), some (.int (pick : Nat)), some (.int (size : Nat)), some (.str base), some (.int (at' : Nat)), some (.str z), some (.int (F : Nat)), some (.ref fl), some (.int (i : Nat)), y11, some (.str w)] H9 := fun B C w H9 y11 ow k9 hp9 => by
      unfold t__law_names_r2
      walk_at "sx"
      refine g_eq rfl ⟨_, rfl, ?_⟩
      by_cases h2 : pick = 2
      · rw [decide_eq_true (by rw [h2]; rfl), if_pos rfl]
        have f1 : (((F : Int) + (i : Int) / 8) % 26).toNat = (F + i / 8) % 26 := by omega
        refine ⟨⟨by decide, by decide⟩, by decide, g_let (by omega) (by omega) ?_⟩
        rw [f1]
        have hc : isLt (sgn ((F + i / 8) % 26)) := sgn_lt (by omega)
        have c8 : cl ⟨(List.replicate 8 (#[sgn ((F + i / 8) % 26)] : Array Nat)).foldl (· ++ ·) #[]⟩ = List.replicate 8 (sgn ((F + i / 8) % 26)) := cl_rep _ 8
        refine ⟨_, 8, rfl, rfl, by decide, by decide, by show 1 ≠ 0; decide, by show 1 * 8 ≤ 1000000; decide, ⟨by decide, ?_⟩⟩
        have ei : (i : Int) % 8 + 1 = ((i % 8 + 1 : Nat) : Int) := by omega
        rw [ei]
        show uSl K (V.str ⟨(List.replicate 8 (#[sgn ((F + i / 8) % 26)] : Array Nat)).foldl (· ++ ·) #[]⟩) none _ H9 _
        generalize (⟨(List.replicate 8 (#[sgn ((F + i / 8) % 26)] : Array Nat)).foldl (· ++ ·) #[]⟩ : Str) = z8 at c8
        have l8 : z8.length = 8 := by rw [cl_len, c8, List.length_replicate]
        have cw : cl (cutS z8 none (some ((i % 8 + 1 : Nat) : Int))) = List.replicate (i % 8 + 1) (sgn ((F + i / 8) % 26)) := by
          rw [cut_pre, c8, List.take_replicate, Nat.min_eq_left (by omega)]
        refine g_slS (by rw [l8]; exact len_le (by decide)) ?_
        refine fin B C _ H9 y11 (by rw [cw]; exact name_rep hc (by omega) (by omega)) (.inr (.inr ⟨h2, cw⟩)) k9 hp9
      · rw [decide_eq_false (fun c => h2 (by injection c with c; omega)), if_neg (by decide)]
        obtain ⟨o1, o2⟩ := ow h2
        exact fin B C w H9 y11 o1 o2 k9 hp9
    unfold t__law_names_b1
    walk_at "sx"
    refine ⟨cmul_small (by decide), g_lenS (by rw [hS.l]; exact len_le (by omega)) ?_⟩
    rw [hS.l]
    walk_at "sx"
    have fL : (((F : Int) + 5 * (i : Int)) % (L : Int)).toNat = (F + 5 * i) % L := by rcases hL with rfl | rfl <;> omega
    have fL2 : (F + 5 * i) % L < L := Nat.mod_lt _ (by omega)
    have fL3 : 0 ≤ ((F : Int) + 5 * (i : Int)) % (L : Int) := Int.emod_nonneg _ (by omega)
    refine ⟨by omega, g_ixS (by rw [hS.l]; exact len_le (by omega)) (at_lit ((F + 5 * i) % L) (by omega) (hS.a _ fL2)) ?_⟩
    have bL : base.length ≤ sizeLine := len_le (by omega)
    refine g_slS bL ?_
    walk_at "sx"
    have l1 := congrArg List.length (cut_pre base at')
    rw [← cl_len, List.length_take] at l1
    have l2 := congrArg List.length (cut_suf base (at' + 1))
    rw [← cl_len, List.length_drop] at l2
    have one : (⟨#[sgn ((F + 5 * i) % L)]⟩ : Str).length = 1 := rfl
    have e1 : ((at' : Int) + 1) = ((at' + 1 : Nat) : Int) := by omega
    rw [e1]
    refine ⟨by rw [one]; exact len_le (by omega), g_slS bL ?_⟩
    refine e_addS.mpr ⟨by rw [strLen_append, one]; exact len_le (by omega), ?_⟩
    have cw : cl ((cutS base none (some (at' : Int)) ++ (⟨#[sgn ((F + 5 * i) % L)]⟩ : Str)) ++ cutS base (some ((at' + 1 : Nat) : Int)) none) = putAt (cl base) at' (sgn ((F + 5 * i) % L)) := by
      rw [cl_app, cl_app, cut_pre, cut_suf]
      rfl
    generalize (cutS base none (some (at' : Int)) ++ (⟨#[sgn ((F + 5 * i) % L)]⟩ : Str)) ++ cutS base (some ((at' + 1 : Nat) : Int)) none = w0 at cw
    obtain ⟨b1, b2, b3, b4⟩ := nb
    have hat : at' < (cl base).length := by omega
    have ok0 : NameOk (cl w0) := by
      rw [cw]
      refine ⟨by rw [putAt_len hat]; exact b1, by rw [putAt_len hat]; exact b2, putAt_sg b3 (sgn_sg (by rcases hL with rfl | rfl <;> omega)), putAt_head hat b4 fun hz => sgn_lt ?_⟩
      have := h0 (by omega)
      omega
    refine g_eq rfl ⟨_, rfl, ?_⟩
    by_cases hp1 : pick = 1
    · rw [decide_eq_true (by rw [hp1]; rfl), if_pos rfl]
      have f26 : (((F : Int) + 5 * (i : Int)) % 26).toNat = (F + 5 * i) % 26 := by omega
      refine ⟨cmul_small (by decide), by decide, g_let (by omega) (by omega) ?_⟩
      rw [f26]
      refine ⟨p, 7, k + 288 - 10 * i - 1, rfl, by decide, by decide, hp8.less (by omega), fun s' H9 s0' s1' k9 hp9 => ?_⟩
      walk_at "sx"
      obtain ⟨n', hn'⟩ : ∃ n : Nat, 1 + s' = (n : Int) := ⟨(1 + s').toNat, by omega⟩
      rw [hn']
      refine ⟨p, n', k + 288 - 10 * i - 9, rfl, by omega, by omega, hp9.less (by omega), fun w1 HA ow1 lw1 kA hpA => ?_⟩
      refine e_addS.mpr ⟨by show 1 + w1.length ≤ _; exact len_le (by omega), ?_⟩
      have cw1 : cl ((⟨#[sgn ((F + 5 * i) % 26)]⟩ : Str) ++ w1) = sgn ((F + 5 * i) % 26) :: cl w1 := by rw [cl_app]; rfl
      have hc : isLt (sgn ((F + 5 * i) % 26)) := sgn_lt (by omega)
      obtain ⟨u1, u2, u3, u4⟩ := ow1
      have lcw : (cl w1).length = n' := by rw [← cl_len]; exact lw1
      refine two _ _ _ HA _ (fun _ => ⟨?_, .inr (.inl ⟨hp1, by rw [cw1]; rfl⟩)⟩) (k9.trans kA) hpA
      rw [cw1]
      exact ⟨by simp, by rw [List.length_cons]; omega, fun x hx => (List.mem_cons.mp hx).elim (fun e => by rw [e]; exact .inl hc) (u3 x), fun x hx => by
        have : some (sgn ((F + 5 * i) % 26)) = some x := hx
        rw [← Option.some.inj this]; exact hc⟩
    · rw [decide_eq_false (fun c => hp1 (by injection c with c; omega)), if_neg (by decide)]
      refine two _ _ _ H8 _ (fun h2 => ⟨ok0, .inl ⟨by omega, by rw [cw]; exact putAt_get hat⟩⟩) (Keep.refl _ _) (hp8.less (by omega))
  · rintro σ H8 ⟨y10, y11, y12, ys, rfl, ef, ly, oy, ndy, ky, hp8, kk⟩
    unfold t__law_names_r3
    walk_at "sx"
    exact q fl H8 ys nfl kk (hp8.less (by omega)) ef (by simpa using ly) oy ndy


theorem g_tup {K : PySem.W.Frag} {p : Addr} {xs : List V} {n : Nat} {t : TGs} {σ : L2.St} {H : Hp} {Q : L2.St → Hp → Prop} (h : Tup H p xs) (l : xs.length = n) (q : t xs σ H Q) : gTup K n t (.ref p) σ H Q := ⟨p, xs, rfl, h.sq, l, q⟩
theorem log_small {i : Int} (h0 : 0 ≤ i) (h1 : i ≤ 1000000) : i.natAbs.log2 < 1920 := by
  have : i.natAbs < 2 ^ 20 := by omega
  by_cases h : i.natAbs = 0
  · rw [h]; decide
  · exact Nat.lt_trans ((Nat.log2_lt h).mpr this) (by decide)
/-! is_road -/
theorem kit_tuple_tuple : kitB "tuple" "tuple" = some true := by decide +kernel
def isDrv : V → Bool
  | .non => true
  | .int i => decide (1 ≤ i) && decide (i ≤ 60)
  | _ => false
def spWholeI : Sp := fun vs H Q _ => ∃ i : Int, vs = [.int i] ∧ Q (.bl true) H
theorem rd_wholeI (K : PySem.W.Frag) : ∀ vs H Q E, spWholeI vs H Q E → run (t_is_whole K) (L2.start N_is_whole vs) H Q := by
  rintro _ H Q _ ⟨i, rfl, q⟩
  show run (t_is_whole K) [some (.int i)] H Q
  unfold t_is_whole
  walk_at "sx"
  refine g_isi (.base (.int i)) kit_int_int ⟨true, rfl, ?_⟩
  rw [if_pos rfl]
  exact g_isi (.base (.int i)) kit_int_bool ⟨false, rfl, q⟩
def spWithinI : Sp := fun vs H Q _ => ∃ i lo hi : Int, vs = [.int i, .int lo, .int hi] ∧ Q (.bl (decide (lo ≤ i) && decide (i ≤ hi))) H
theorem rd_withinI (K : PySem.W.Frag) : ∀ vs H Q E, spWithinI vs H Q E → run (t_is_within K spWholeI) (L2.start N_is_within vs) H Q := by
  rintro _ H Q _ ⟨i, lo, hi, rfl, q⟩
  show run (t_is_within K spWholeI) [some (.int i), some (.int lo), some (.int hi)] H Q
  unfold t_is_within
  walk_at "sx"
  refine ⟨i, rfl, true, rfl, ?_⟩
  rw [if_pos rfl]
  walk_at "sx"
  by_cases h : lo ≤ i <;> simpa [h, e_rI0] using q
def spDrv : Sp := fun vs H Q _ => ∃ m : Option Int, vs = [mV m] ∧ Q (.bl (isDrv (mV m))) H
theorem rd_isDrive (K : PySem.W.Frag) : ∀ vs H Q E, spDrv vs H Q E → run (t__is_drive K spWithinI) (L2.start N__is_drive vs) H Q := by
  rintro _ H Q _ ⟨m, rfl, q⟩
  show run (t__is_drive K spWithinI) [some (mV m)] H Q
  unfold t__is_drive
  walk_at "sx"
  cases m with
  | none =>
    rw [if_pos (show mV none = V.non from rfl)]
    exact q
  | some i =>
    rw [if_neg (fun z => nomatch z)]
    exact ⟨i, 1, 60, rfl, q⟩
theorem inV_str {y : Str} (zs : List Str) : inV (.str y) (zs.map V.str) = decide (y ∈ zs) := by
  unfold inV
  induction zs with
  | nil => rfl
  | cons a r ih =>
    rw [List.map_cons, List.any_cons, ih]
    show ((a == y) || _) = _
    rw [Bool.eq_iff_iff]
    simp only [Bool.or_eq_true, beq_iff_eq, decide_eq_true_eq, List.mem_cons]
    exact ⟨fun h => h.elim (fun e => .inl e.symm) .inr, fun h => h.elim (fun e => .inl e.symm) .inr⟩
theorem ei_strs : ∀ ys : List Str, EI (fun v y => v = V.str y) (ys.map V.str) ys
  | [] => .nil
  | y :: r => .cons rfl (ei_strs r)
theorem ei_rds {H : Hp} : ∀ {vs : List V} {rs : List Rd}, RdsAt H vs rs → EI (fun v r => ∃ p, v = .ref p ∧ RdAt H p r) vs rs
  | _, _, .nil => .nil
  | _, _, .cons h q => .cons ⟨_, rfl, h⟩ (ei_rds q)
theorem take_one {α : Type} {rs : List α} {i : Nat} {r : α} (e : rs[i]? = some r) : rs.take (i + 1) = rs.take i ++ [r] := by
  rw [List.take_succ, e]; rfl
/-- a thing of a kind that isinstance knows -/
inductive Kd (K : PySem.W.Frag) (H : Hp) : V → Prop
  | non : Kd K H .non
  | bl (b : Bool) : Kd K H (.bl b)
  | int (i : Int) : Kd K H (.int i)
  | str (x : Str) : Kd K H (.str x)
  | lst {a : Addr} {xs : List V} : H a = some (.lst xs) → Kd K H (.ref a)
  | tup {a : Addr} {xs : List V} : Tup H a xs → Kd K H (.ref a)
  | dic {a : Addr} {xs : List (Key × V)} : H a = some (.dK xs) → Kd K H (.ref a)
theorem Kd.keep {K : PySem.W.Frag} {H H' : Hp} {v : V} (h : Kd K H v) (k : Keep [] H H') : Kd K H' v := by
  cases h with
  | non => exact .non
  | bl b => exact .bl b
  | int i => exact .int i
  | str x => exact .str x
  | lst e => exact .lst (k _ _ nin0 e)
  | tup e => exact .tup (e.keep k nin0)
  | dic e => exact .dic (k _ _ nin0 e)
/-! ### texts, names -/
abbrev sg (z : Str) : List Nat := z.cps.toList
abbrev s1 (c : Nat) : Str := ⟨#[c]⟩
abbrev LET : Str := "abcdefghijklmnopqrstuvwxyz"
abbrev NSG : Str := "abcdefghijklmnopqrstuvwxyz0123456789"
theorem kit_int_str : kitB "int" "str" = some false := by decide +kernel
theorem kit_bool_str : kitB "bool" "str" = some false := by decide +kernel
theorem kit_str_str' : kitB "str" "str" = some true := by decide +kernel
theorem kit_none_str : kitB "NoneType" "str" = some false := by decide +kernel
theorem kit_list_str : kitB "list" "str" = some false := by decide +kernel
theorem kit_tuple_str : kitB "tuple" "str" = some false := by decide +kernel
theorem kit_dict_str : kitB "dict" "str" = some false := by decide +kernel
def isStrB : V → Bool
  | .str _ => true
  | _ => false
theorem g_isStr {K : PySem.W.Frag} {H : Hp} {v : V} {Q : VK} (h : Kd K H v) (q : Q (.bl (isStrB v)) H) : rIsi K [v, .ty "str"] H Q := by
  cases h with
  | int i => exact g_isi (.base (.int i)) kit_int_str q
  | bl b => exact g_isi (.base (.bl b)) kit_bool_str q
  | non => exact g_isi (.base .non) kit_none_str q
  | str x => exact g_isi (.base (.str x)) kit_str_str' q
  | lst e => exact g_isi (.base (.lst e)) kit_list_str q
  | tup e => exact g_isi (ty_tup e) kit_tuple_str q
  | dic e => exact g_isi (.base (.dK e)) kit_dict_str q
theorem g_inC {K : PySem.W.Frag} {H : Hp} {Q : VK} {c : Nat} {z : Str} (q : Q (.bl (decide (c ∈ sg z))) H) : uIn K false (.str (s1 c)) (.str z) H Q :=
  .inr ⟨s1 c, z, rfl, rfl, by rw [if_neg Bool.false_ne_true, PySem.StrLaws.found_one z c]; exact q⟩
theorem g_ninC {K : PySem.W.Frag} {H : Hp} {Q : VK} {c : Nat} {z : Str} (q : Q (.bl (!decide (c ∈ sg z))) H) : uIn K true (.str (s1 c)) (.str z) H Q :=
  .inr ⟨s1 c, z, rfl, rfl, by rw [if_pos rfl, PySem.StrLaws.found_one z c]; exact q⟩
theorem sg_len (z : Str) : (sg z).length = z.length := by simp [Str.length]
theorem g_first {K : PySem.W.Frag} {H : Hp} {Q : VK} {z : Str} (h1 : 1 ≤ z.length) (h8 : z.length ≤ 8) (q : Q (.str (s1 ((sg z).getD 0 0))) H) : uIx K (.str z) (.int 0) H Q := by
  have hl := sg_len z
  refine g_ixS (len_le (by omega)) (at_lit 0 rfl ?_) q
  show (sg z)[0]? = _
  rw [List.getD_eq_getElem?_getD, List.getElem?_eq_getElem (show 0 < (sg z).length by omega)]
  rfl
/-! ### moments as texts -/
abbrev nt (h : Nat) : Str := Str.ofString (toString ((h : Nat) : Int))
abbrev FIG : Str := "0123456789"
theorem sg_nt (h : Nat) : sg (nt h) = TL.numL h := TL.tl_num h
theorem fig_of {c : Nat} (h0 : 48 ≤ c) (h1 : c ≤ 57) : c ∈ sg FIG := by
  have : c = 48 ∨ c = 49 ∨ c = 50 ∨ c = 51 ∨ c = 52 ∨ c = 53 ∨ c = 54 ∨ c = 55 ∨ c = 56 ∨ c = 57 := by omega
  rcases this with rfl | rfl | rfl | rfl | rfl | rfl | rfl | rfl | rfl | rfl <;> decide +kernel
theorem num_head : ∀ h : Nat, 1 ≤ h → ∃ c r, TL.numL h = c :: r ∧ 49 ≤ c := by
  intro h
  induction h using Nat.strongRecOn with
  | ind h ih =>
    intro h1
    by_cases h2 : h < 10
    · exact ⟨48 + h, [], TL.numL_lt h2, by omega⟩
    · obtain ⟨c, r, e, hc⟩ := ih (h / 10) (by omega) (by omega)
      exact ⟨c, r ++ [48 + h % 10], by rw [TL.numL_step (by omega), e]; rfl, hc⟩
theorem nt_len {h k : Nat} (hk : 0 < k) (hh : h < 10 ^ k) : (nt h).length ≤ k := by
  rw [← sg_len, sg_nt]
  exact TL.numL_len hk hh
theorem nt_pos (h : Nat) : 1 ≤ (nt h).length := by
  rw [← sg_len, sg_nt]
  exact List.length_pos_iff.mpr (TL.numL_ne h)
def letB (c : Nat) : Bool := decide (c ∈ sg LET)
def nsgB (c : Nat) : Bool := decide (c ∈ sg NSG)
def nameV : V → Bool
  | .str z => if 1 ≤ z.length ∧ z.length ≤ 8 then letB ((sg z).getD 0 0) && (sg z).all nsgB else false
  | _ => false
def spIsName (K : PySem.W.Frag) (L : List Addr) (P : Addr) : Sp := fun vs H Q _ => ∃ v, vs = [v] ∧ Kd K H v ∧ (∀ z, v = .str z → z.length ≤ 1000000) ∧ Tabs L H ∧ P ∈ L ∧ ∀ H', KT L H H' → Q (.bl (nameV v)) H'
theorem rd_isname (K : PySem.W.Frag) {L : List Addr} {P : Addr} : ∀ vs H Q E, spIsName K L P vs H Q E → run (t_is_name K P) (L2.start N_is_name vs) H Q := by
  rintro _ H Q _ ⟨v, rfl, hv, hz, ht, hP, q⟩
  show run (t_is_name K P) [some v, none] H Q
  unfold t_is_name
  walk_at "sx"
  have no : nameV v = false → Q (.bl false) H := fun e => by rw [← e]; exact q H (KT.refl _ _)
  cases v with
  | str z =>
    refine g_isStr hv ⟨true, rfl, ?_⟩
    have lz := hz z rfl
    rw [if_neg (by decide)]
    refine g_lenS (len_le lz) ?_
    refine e_rI0.mpr ⟨_, rfl, ?_⟩
    by_cases h1 : 1 ≤ z.length
    · rw [if_pos (decide_eq_true (show (1 : Int) ≤ (z.length : Nat) by omega))]
      refine e_rI0.mpr ⟨_, rfl, ?_⟩
      by_cases h8 : z.length ≤ 8
      · rw [decide_eq_true (show ((z.length : Nat) : Int) ≤ 8 by omega), if_neg (by decide)]
        unfold t_is_name_r1
        walk_at "sx"
        have en : nameV (.str z) = (letB ((sg z).getD 0 0) && (sg z).all nsgB) := if_pos ⟨h1, h8⟩
        refine g_first h1 h8 (g_inC ⟨letB ((sg z).getD 0 0), rfl, ?_⟩)
        cases hb : letB ((sg z).getD 0 0) with
        | false =>
          rw [if_neg Bool.false_ne_true]
          have hb' : decide ((sg z).getD 0 0 ∈ sg LET) = false := hb
          have := no (by rw [en, hb]; rfl)
          rw [← hb'] at this
          exact this
        | true =>
          rw [if_pos rfl]
          refine e_genU.mpr ?_
          walk_at "sx"
          refine g_GS nsgB ht hP (fun c H1 R R0 hc k1 t1 hR => ?_) fun H' k => ?_
          · walk_at "sx"
            exact g_inC (hR H1 (KT.refl _ _))
          · have e : aaB false nsgB (sg z) = nameV (.str z) := by rw [en, hb]; rfl
            rw [e]
            exact q H' k
      · rw [decide_eq_false (show ¬ ((z.length : Nat) : Int) ≤ 8 by omega), if_pos (by decide)]
        exact no (if_neg fun h => h8 h.2)
    · rw [decide_eq_false (show ¬ (1 : Int) ≤ (z.length : Nat) by omega), if_neg (by decide)]
      exact no (if_neg fun h => h1 h.1)
  | _ => exact g_isStr hv ⟨false, rfl, no rfl⟩

theorem let_in {c : Nat} (h : isLt c) : letB c = true := by
  unfold isLt at h
  have key : ∀ i, i < 26 → decide (97 + i ∈ sg LET) = true := by decide +kernel
  have := key (c - 97) (by omega)
  rwa [show 97 + (c - 97) = c by omega] at this
theorem nsg_in {c : Nat} (h : isSg c) : nsgB c = true := by
  unfold isSg isLt at h
  have k1 : ∀ i, i < 26 → decide (97 + i ∈ sg NSG) = true := by decide +kernel
  have k2 : ∀ i, i < 10 → decide (48 + i ∈ sg NSG) = true := by decide +kernel
  rcases h with h | h
  · have := k1 (c - 97) (by omega)
    rwa [show 97 + (c - 97) = c by omega] at this
  · have := k2 (c - 48) (by omega)
    rwa [show 48 + (c - 48) = c by omega] at this
theorem nameV_ok {y : Str} (h : NameOk (cl y)) : nameV (.str y) = true := by
  obtain ⟨h1, h2, h3, h4⟩ := h
  have e : (cl y).length = y.length := (cl_len y).symm
  have hv : nameV (.str y) = (letB ((sg y).getD 0 0) && (sg y).all nsgB) := if_pos ⟨by omega, by omega⟩
  rw [hv, Bool.and_eq_true]
  constructor
  · have e2 : sg y = cl y := rfl
    rw [e2]
    cases hc : cl y with
    | nil => rw [hc] at h1; simp at h1
    | cons c r => exact let_in (h4 c (by rw [hc]; rfl))
  · exact List.all_eq_true.mpr fun c hc => nsg_in (h3 c hc)
/-! ### the law's names -/
def Lo (z : Str) : Prop := ∀ c ∈ sg z, c < 128
theorem sg_app (a b : Str) : sg (a ++ b) = sg a ++ sg b := by
  show (a ++ b).cps.toList = _
  rw [PySem.Str.cps_append, Array.toList_append]
theorem lay_s1 : ∀ {cs : List Nat}, (∀ c ∈ cs, c < 128) → PyData.canLayAll0 (cs.map fun c => .str (s1 c)) = true ∧ PyData.depthAll (cs.map fun c => .str (s1 c)) = 0
  | [], _ => ⟨rfl, by simp [PyData.depthAll]⟩
  | c :: cs, h => by
    obtain ⟨h1, h2⟩ := lay_s1 fun z hz => h z (List.mem_cons_of_mem _ hz)
    have hc : PyData.strOk (s1 c) = true := by
      have := h c List.mem_cons_self
      simp [PyData.strOk, s1]
      omega
    exact ⟨by simp [PyData.canLayAll0, PyData.canLay0, h1, hc], by simp [PyData.depthAll, PyData.depth, h2]⟩
theorem dp_s1 {K : PySem.W.Frag} {H : Hp} : ∀ cs : List Nat, DpAll K H (cs.map fun c => V.str (s1 c)) (cs.map fun c => .str (s1 c))
  | [] => .nil
  | c :: cs => .cons (.str _) (dp_s1 cs)
theorem g_eqS1 {K : PySem.W.Frag} {H : Hp} {Q : VK} {a b : Addr} {cs : List Nat} (h : H a = some (.lst (cs.map fun c => V.str (s1 c)))) (e : H b = some (.lst [])) (lo : ∀ c ∈ cs, c < 128) (q : Q (.bl cs.isEmpty) H) : uEq K false (.ref a) (.ref b) H Q := by
  obtain ⟨h1, h2⟩ := lay_s1 lo
  refine .inr ⟨_, _, .lst (lst_sq h) (dp_s1 cs), .lst (lst_sq e) .nil, ?_, by decide +kernel, ?_⟩
  · unfold SeqAt.shaped
    rw [Bool.and_eq_true_iff]
    exact ⟨by simp [PyData.canLay0, h1], decide_eq_true (by simp [PyData.depth, h2])⟩
  · rw [if_neg Bool.false_ne_true]
    cases cs with
    | nil => exact q
    | cons c cs => exact q
theorem all_empty {α : Type} {f : α → Bool} : ∀ xs : List α, (xs.filter fun x => !f x).isEmpty = xs.all f
  | [] => rfl
  | x :: xs => by
    rw [List.filter_cons, List.all_cons]
    cases f x with
    | true => rw [Bool.true_and, if_neg (by decide)]; exact all_empty xs
    | false => rfl
def spIsL (K : PySem.W.Frag) : Sp := fun vs H Q _ => ∃ v, vs = [v] ∧ Kd K H v ∧ (∀ z, v = .str z → z.length ≤ 1000000 ∧ Lo z) ∧ ∀ H', Keep [] H H' → Q (.bl (nameV v)) H'
theorem rd_isL (K : PySem.W.Frag) : ∀ vs H Q E, spIsL K vs H Q E → run (t__law_is_name K) (L2.start N__law_is_name vs) H Q := by
  rintro _ H Q _ ⟨v, rfl, hv, hz, q⟩
  show run (t__law_is_name K) [some v, none, none] H Q
  unfold t__law_is_name
  walk_at "sx"
  have no : nameV v = false → Q (.bl false) H := fun e => by rw [← e]; exact q H (Keep.refl _ _)
  cases v with
  | str z =>
    refine g_isStr hv ⟨true, rfl, ?_⟩
    obtain ⟨lz, loz⟩ := hz z rfl
    rw [if_neg (by decide)]
    refine g_lenS (len_le lz) ?_
    refine e_rI0.mpr ⟨_, rfl, ?_⟩
    by_cases h1 : 1 ≤ z.length
    · rw [if_pos (decide_eq_true (show (1 : Int) ≤ (z.length : Nat) by omega))]
      refine e_rI0.mpr ⟨_, rfl, ?_⟩
      by_cases h8 : z.length ≤ 8
      · rw [decide_eq_true (show ((z.length : Nat) : Int) ≤ 8 by omega), if_neg (by decide)]
        have en : nameV (.str z) = (letB ((sg z).getD 0 0) && (sg z).all nsgB) := if_pos ⟨h1, h8⟩
        refine g_first h1 h8 (g_ninC ⟨_, rfl, ?_⟩)
        cases hb : letB ((sg z).getD 0 0) with
        | false =>
          have hb' : decide ((sg z).getD 0 0 ∈ sg LET) = false := hb
          rw [if_pos (by rw [hb']; rfl)]
          exact no (by rw [en, hb]; rfl)
        | true =>
          have hb' : decide ((sg z).getD 0 0 ∈ sg LET) = true := hb
          rw [if_neg (by rw [hb']; decide)]
          unfold t__law_is_name_r1
          walk_at "sx"
          have sz : z.cps.size = (sg z).length := by simp
          refine g_CS (S := []) (fun _ h => (List.not_mem_nil h).elim) ⟨fun i H' acc => acc = (((sg z).take i).filter fun c => !nsgB c).map fun c => V.str (s1 c), fun _ _ _ _ => rfl, ?_, ?_⟩
          · rintro D i H1 acc R R0 nD hi k1 eD rfl hR hR0
            have hi' : i < (sg z).length := by rw [← sz]; exact hi
            have hg : (sg z)[i]? = some (sg z)[i] := List.getElem?_eq_getElem hi'
            have e : z.cps.getD i 0 = (sg z)[i] := by
              rw [Array.getD_eq_getD_getElem?, ← Array.getElem?_toList]
              show ((sg z)[i]?).getD 0 = _
              rw [hg]
              rfl
            have tk : ((sg z).take (i + 1)).filter (fun c => !nsgB c) = ((sg z).take i).filter (fun c => !nsgB c) ++ (if nsgB (sg z)[i] = false then [(sg z)[i]] else []) := by
              rw [List.take_succ, hg, List.filter_append]
              congr 1
              show [(sg z)[i]].filter _ = _
              generalize (sg z)[i] = c
              cases h : nsgB c <;> simp [h]
            have ln : (((sg z).take i).filter fun c => !nsgB c).length ≤ 8 := Nat.le_trans (List.length_filter_le _ _) (by rw [List.length_take]; have := sg_len z; omega)
            show gName 2 (.str ⟨#[z.cps.getD i 0]⟩) _ _ _
            rw [e]
            generalize (sg z)[i] = c at tk
            walk_at "sx"
            rw [let_nsg]
            refine ⟨by decide +kernel, g_ninC ⟨_, rfl, ?_⟩⟩
            cases hc : nsgB c with
            | true =>
              have hc' : decide (c ∈ sg NSG) = true := hc
              rw [hc', if_neg (by decide)]
              refine hR0 _ (Keep.refl _ _) ?_
              dsimp only
              rw [tk, hc, if_neg (by decide), List.append_nil]
            | false =>
              have hc' : decide (c ∈ sg NSG) = false := hc
              rw [hc', if_pos (by decide)]
              refine hR _ _ (Keep.refl _ _) (by rw [List.length_map]; exact len_lt (by omega)) fun H5 _ => ?_
              dsimp only
              rw [tk, hc, if_pos rfl, List.map_append]
              rfl
          · rintro D H1 acc nD k1 eD rfl
            rw [sz, List.take_length] at eD
            refine ⟨by walk_at "sz", fun e0 H2 n2 k2 f2 => g_eqS1 (k2 _ _ nin0 eD) f2 (fun c hc => loz c (List.mem_filter.mp hc).1) ?_⟩
            have e : ((sg z).filter fun c => !nsgB c).isEmpty = nameV (.str z) := by rw [en, hb, all_empty]; rfl
            rw [e]
            exact q H2 (k1.trans k2)
      · rw [decide_eq_false (show ¬ ((z.length : Nat) : Int) ≤ 8 by omega), if_pos (by decide)]
        exact no (if_neg fun h => h8 h.2)
    · rw [decide_eq_false (show ¬ (1 : Int) ≤ (z.length : Nat) by omega), if_neg (by decide)]
      exact no (if_neg fun h => h1 h.1)
  | _ => exact g_isStr hv ⟨false, rfl, no rfl⟩

/-! ### what is_town tells of towns of any parts -/
def roadB (ys : List Str) (r : Rd) : Bool := decide (r.one ∈ ys) && (decide (r.two ∈ ys) && (!decide (r.one = r.two) && (!(r.there.isNone && r.back.isNone) && (isDrv (mV r.there) && isDrv (mV r.back)))))
def placesB (ys : List Str) : Bool := (decide (1 ≤ ys.length) && decide (ys.length ≤ 10)) && (ys.all (fun y => nameV (.str y)) && decide ys.Nodup)
def roadsB (ys : List Str) (rs : List Rd) : Bool := decide (rs.length ≤ 18) && rs.all (roadB ys)
def standsB (ys ss : List Str) : Bool := (decide (1 ≤ ss.length) && decide (ss.length ≤ 5)) && (ss.all (fun y => decide (y ∈ ys)) && decide ss.Nodup)
def townB (T : Tn) : Bool := placesB T.places && (roadsB T.places T.roads && (standsB T.places T.stands && (decide (0 ≤ T.reach) && decide (T.reach ≤ 120))))
def Tx (y : Str) : Prop := y.length ≤ 1000 ∧ Lo y
structure Wk (T : Tn) : Prop where
  p : T.places.length ≤ 50
  s : T.stands.length ≤ 50
  r : T.roads.length ≤ 1000
  pn : ∀ y ∈ T.places, Tx y
  sn : ∀ y ∈ T.stands, Tx y
  rn : ∀ r ∈ T.roads, Tx r.one ∧ Tx r.two
theorem str_ne {a b : Str} : decide (V.str a = V.str b) = decide (a = b) := decide_eq_decide.mpr ⟨fun e => by injection e, fun e => by rw [e]⟩
theorem flat_strs (ys : List Str) : (ys.map V.str).all flatV = true := by
  rw [List.all_map]
  exact List.all_eq_true.mpr fun _ _ => rfl
theorem g_inTS {K : PySem.W.Frag} {H : Hp} {a : Addr} {y : Str} {ys : List Str} {Q : VK} (h : Tup H a (ys.map V.str)) (q : Q (.bl (decide (y ∈ ys))) H) : uIn K false (.str y) (.ref a) H Q :=
  .inl ⟨a, _, rfl, .inr h.sq, rfl, flat_strs ys, by rw [if_neg (by decide), inV_str]; exact q⟩
theorem g_ninTS {K : PySem.W.Frag} {H : Hp} {a : Addr} {y : Str} {ys : List Str} {Q : VK} (h : Tup H a (ys.map V.str)) (q : Q (.bl (!decide (y ∈ ys))) H) : uIn K true (.str y) (.ref a) H Q :=
  .inl ⟨a, _, rfl, .inr h.sq, rfl, flat_strs ys, by rw [if_pos rfl, inV_str]; exact q⟩
theorem mV_non {m : Option Int} : decide (mV m = V.non) = m.isNone := by cases m <;> rfl
/-- a road told by its parts -/
def PlAt (H : Hp) (a : Addr) (ys : List Str) : Prop := Tup H a (ys.map V.str) ∨ H a = some (.lst (ys.map V.str))
theorem g_ninPl {K : PySem.W.Frag} {H : Hp} {a : Addr} {y : Str} {ys : List Str} {Q : VK} (h : PlAt H a ys) (q : Q (.bl (!decide (y ∈ ys))) H) : uIn K true (.str y) (.ref a) H Q :=
  .inl ⟨a, _, rfl, h.elim (fun h => .inr h.sq) fun h => .inl (lst_sq h), rfl, flat_strs ys, by rw [if_pos rfl, inV_str]; exact q⟩
def spRoadG : Sp := fun vs H Q _ => ∃ (pl rp : Addr) (ys : List Str) (r : Rd), vs = [.ref pl, .ref rp] ∧ PlAt H pl ys ∧ RdAt H rp r ∧ Q (.bl (roadB ys r)) H
theorem rd_roadG (K : PySem.W.Frag) : ∀ vs H Q E, spRoadG vs H Q E → run (t_is_road K spDrv) (L2.start N_is_road vs) H Q := by
  rintro _ H Q _ ⟨pl, rp, ys, r, rfl, hl, hr, q⟩
  show run (t_is_road K spDrv) [some (.ref pl), some (.ref rp), none, none, none, none] H Q
  unfold t_is_road
  walk_at "sx"
  refine g_isi (ty_tup hr) kit_tuple_tuple ⟨true, rfl, ?_⟩
  rw [if_neg (by decide)]
  refine g_lenT hr (g_ne rfl ⟨false, rfl, ?_⟩)
  rw [if_neg (by decide)]
  unfold t_is_road_r3
  walk_at "sx"
  refine g_tup hr rfl ?_
  walk_at "sx"
  refine ⟨_, _, rfl, _, _, rfl, _, _, rfl, _, _, rfl, rfl, ?_⟩
  walk_at "sx"
  have no : roadB ys r = false → Q (.bl false) H := fun e => by rw [← e]; exact q
  refine g_ninPl hl ⟨_, rfl, ?_⟩
  by_cases h1' : ¬ (r.one ∈ ys)
  · have h1 := h1'
    rw [if_pos (by rw [decide_eq_false h1]; rfl)]
    exact no (by unfold roadB; rw [decide_eq_false h1]; rfl)
  have h1 := Decidable.not_not.mp h1'
  rw [if_neg (by rw [decide_eq_true h1]; decide)]
  refine g_ninPl hl ⟨_, rfl, ?_⟩
  by_cases h2' : ¬ (r.two ∈ ys)
  · have h2 := h2'
    rw [if_pos (by rw [decide_eq_false h2]; rfl)]
    exact no (by unfold roadB; rw [decide_eq_true h1, decide_eq_false h2]; rfl)
  have h2 := Decidable.not_not.mp h2'
  rw [if_neg (by rw [decide_eq_true h2]; decide)]
  refine g_eq rfl ⟨_, rfl, ?_⟩
  rw [str_ne]
  by_cases h3 : r.one = r.two
  · rw [if_pos (decide_eq_true h3)]
    exact no (by unfold roadB; rw [decide_eq_true h1, decide_eq_true h2, decide_eq_true h3]; rfl)
  rw [if_neg (by rw [decide_eq_false h3]; decide)]
  have e : roadB ys r = (!(r.there.isNone && r.back.isNone) && (isDrv (mV r.there) && isDrv (mV r.back))) := by
    unfold roadB; rw [decide_eq_true h1, decide_eq_true h2, decide_eq_false h3]; rfl
  rw [e] at q
  have last : (r.there.isNone && r.back.isNone) = false → t_is_road_r1 K spDrv { nx := fun x H' => Q V.non H', rt := Q } [some (.ref pl), some (.ref rp), some (.str r.one), some (.str r.two), some (mV r.there), some (mV r.back)] H := fun hn => by
    rw [hn] at q
    unfold t_is_road_r1
    walk_at "sx"
    refine ⟨r.there, rfl, _, rfl, ?_⟩
    cases hd : isDrv (mV r.there) with
    | false =>
      rw [hd] at q
      rw [if_neg (by decide)]
      exact q
    | true =>
      rw [hd] at q
      rw [if_pos rfl]
      exact ⟨r.back, rfl, q⟩
  unfold t_is_road_r2
  walk_at "sx"
  have mn : ∀ m : Option Int, mV m = V.non ↔ m.isNone = true := fun m => by cases m <;> simp [mV]
  split
  · rename_i h1
    split
    · rename_i h2
      rw [(mn _).mp h1, (mn _).mp h2] at q
      exact q
    · rename_i h2
      exact last (by rw [Bool.and_eq_false_iff]; exact .inr (by rw [Bool.eq_false_iff]; exact fun z => h2 ((mn _).mpr z)))
  · rename_i h1
    exact last (by rw [Bool.and_eq_false_iff]; exact .inl (by rw [Bool.eq_false_iff]; exact fun z => h1 ((mn _).mpr z)))


/-! ### rows of words, whatever they tell -/
inductive MW where
  | num (h : Nat)
  | dash
  | z7
def wT : MW → Str
  | .num h => nt h
  | .dash => "-"
  | .z7 => "07"
inductive GRow where
  | pl (y : Str)
  | rd (a b : Str) (m n : MW)
  | st (y : Str)
  | re (h : Nat)
def wordsG : GRow → List Str
  | .pl y => ["place", y]
  | .rd a b m n => ["road", a, b, wT m, wT n]
  | .st y => ["stand", y]
  | .re h => ["reach", nt h]
def gText (r : GRow) : Str := Txt.join " " (wordsG r)
def numOf (M : Nat) : MW → Option Nat
  | .num h => if h ≤ M then some h else none
  | _ => none
def drvOf : MW → Option Int
  | .num h => if h ≤ 60 then some (h : Nat) else some 0
  | .dash => none
  | .z7 => some 0
structure TSt where
  ps : List Str
  rs : List Rd
  ss : List Str
  es : List Nat
def roadOf (a b : Str) (m n : MW) : Rd := ⟨a, b, drvOf m, drvOf n⟩
def takeG (S : TSt) : GRow → Option TSt
  | .pl y => if S.rs = [] ∧ S.ss = [] ∧ S.ps.length ≠ 10 ∧ nameV (.str y) = true ∧ y ∉ S.ps then some { S with ps := S.ps ++ [y] } else none
  | .rd a b m n => if S.ss = [] ∧ S.rs.length ≠ 18 ∧ roadB S.ps (roadOf a b m n) = true then some { S with rs := S.rs ++ [roadOf a b m n] } else none
  | .st y => if S.ss.length ≠ 5 ∧ y ∈ S.ps ∧ y ∉ S.ss then some { S with ss := S.ss ++ [y] } else none
  | .re h => if S.ss ≠ [] ∧ h ≤ 120 then some { S with es := S.es ++ [h] } else none
/-- the words that number_by is asked for -/
def WOk : MW → Prop
  | .num h => h ≤ 999
  | .dash => False
  | .z7 => True
def optV : Option Nat → V
  | none => .non
  | some h => .int (h : Nat)
def spNumG (K : PySem.W.Frag) (L : List Addr) (P : Addr) : Sp := fun vs H Q _ => ∃ (w : MW) (M : Nat), vs = [.str (wT w), .int (M : Nat)] ∧ WOk w ∧ (M = 60 ∨ M = 120) ∧ Tabs L H ∧ P ∈ L ∧ ∀ H', KT L H H' → Q (optV (numOf M w)) H'
theorem rd_numG (K : PySem.W.Frag) {L : List Addr} {P : Addr} : ∀ vs H Q E, spNumG K L P vs H Q E → run (t_number_by K P) (L2.start N_number_by vs) H Q := by
  rintro _ H Q _ ⟨w, M, rfl, hw, hM, ht, hP, q⟩
  show run (t_number_by K P) [some (.str (wT w)), some (.int (M : Nat)), none, none] H Q
  have lw : 1 ≤ (wT w).length ∧ (wT w).length ≤ 3 := by
    cases w with
    | num h => exact ⟨nt_pos h, nt_len (by decide) (by have : h ≤ 999 := hw; omega)⟩
    | dash => exact hw.elim
    | z7 => exact ⟨by decide +kernel, by decide +kernel⟩
  have lM3 : (nt M).length ≤ 3 := nt_len (by decide) (by omega)
  unfold t_number_by
  walk_at "sx"
  refine g_lenS (len_le (by omega)) ?_
  refine e_rI0.mpr ⟨_, rfl, ?_⟩
  rw [if_pos (decide_eq_true (show (1 : Int) ≤ ((wT w).length : Nat) by omega))]
  refine ⟨log_small (by omega) (by omega), g_lenS (len_le (show (nt M).length ≤ 1000000 by omega)) ?_⟩
  refine e_rI0.mpr ⟨_, rfl, ?_⟩
  by_cases hl' : ¬ ((wT w).length ≤ (Str.ofString (toString ((M : Nat) : Int))).length)
  · rw [if_pos (by rw [decide_eq_false (by omega)]; rfl)]
    have e : numOf M w = none := by
      cases w with
      | num h =>
        refine if_neg fun z => hl' ?_
        rcases hM with rfl | rfl
        · show (nt h).length ≤ (nt 60).length
          rw [show (nt 60).length = 2 by decide +kernel]; exact nt_len (by decide) (by omega)
        · show (nt h).length ≤ (nt 120).length
          rw [show (nt 120).length = 3 by decide +kernel]; exact nt_len (by decide) (by omega)
      | dash => rfl
      | z7 => rfl
    have := q H (KT.refl _ _)
    rw [e] at this
    exact this
  have hl := Decidable.not_not.mp hl'
  rw [if_neg (by rw [decide_eq_true (by omega)]; decide)]
  unfold t_number_by_r3
  walk_at "sx"
  refine e_genU.mpr ?_
  walk_at "sx"
  refine g_GS (fun c => decide (c ∈ sg FIG)) ht hP (fun c H1 R R0 hc k1 t1 hR => ?_) fun H1 k1 => ?_
  · walk_at "sx"
    exact g_inC (hR H1 (KT.refl _ _))
  have all : aaB false (fun c => decide (c ∈ sg FIG)) (sg (wT w)) = true := by
    show (sg (wT w)).all _ = true
    rw [List.all_eq_true]
    intro c hc
    cases w with
    | num h =>
      have hc' : c ∈ sg (nt h) := hc
      rw [sg_nt] at hc'
      have := TL.numL_digits h c hc'
      exact decide_eq_true (fig_of this.1 this.2)
    | dash => exact hw.elim
    | z7 =>
      have hc' : c ∈ [48, 55] := hc
      simp at hc'
      rcases hc' with rfl | rfl <;> decide +kernel
  rw [all]
  refine ⟨true, rfl, ?_⟩
  rw [if_neg (by decide)]
  unfold t_number_by_r2
  walk_at "sx"
  refine g_first lw.1 (by omega) (g_eq rfl ⟨_, rfl, ?_⟩)
  have q1 := q H1 k1
  cases w with
  | dash => exact hw.elim
  | z7 =>
    rw [decide_eq_true (show V.str (s1 ((sg (wT .z7)).getD 0 0)) = V.str "0" from rfl), if_pos rfl]
    refine g_lenS (len_le (show (wT .z7).length ≤ 1000000 by decide +kernel)) (e_rI0.mpr ⟨true, ?_, ?_⟩)
    · rw [decide_eq_true (show (1 : Int) < ((wT .z7).length : Nat) by decide +kernel)]
    rw [if_pos rfl]
    exact q1
  | num h =>
    have fin : t_number_by_r1 K P { nx := fun x H' => Q V.non H', rt := Q } [some (.str (nt h)), some (.int (M : Nat)), none, none] H1 := by
      unfold t_number_by_r1
      walk_at "sx"
      have l5 : (nt h).length ≤ 5 := by have : (nt h).length ≤ 3 := lw.2; omega
      refine ⟨nt h, h, rfl, TL.int_num (Nat.le_trans (by rw [← sg_nt, sg_len]; exact l5) (by decide)), by have : h ≤ 999 := hw; omega, ?_⟩
      walk_at "sx"
      by_cases hh : h ≤ M
      · rw [if_pos (show ((h : Nat) : Int) ≤ (M : Nat) by omega)]
        have e : numOf M (.num h) = some h := if_pos hh
        rw [e] at q1
        exact q1
      · rw [if_neg (show ¬ ((h : Nat) : Int) ≤ (M : Nat) by omega)]
        have e : numOf M (.num h) = none := if_neg hh
        rw [e] at q1
        exact q1
    by_cases h0 : h = 0
    · subst h0
      have e0 : (nt 0).length = 1 := by decide +kernel
      split
      · refine g_lenS (len_le (by show (nt 0).length ≤ _; omega)) ?_
        rw [show (wT (.num 0)).length = 1 from e0]
        walk_at "sx"
        exact fin
      · exact fin
    · obtain ⟨c, r, e, hc⟩ := num_head h (by omega)
      have ne : ¬ V.str (s1 ((sg (nt h)).getD 0 0)) = V.str "0" := fun z => by
        injection z with z
        have z' := congrArg (fun x : Str => x.cps.toList) z
        rw [sg_nt, e] at z'
        have z2 : [c] = [48] := z'
        injection z2 with z2
        omega
      rw [show wT (.num h) = nt h from rfl, decide_eq_false ne, if_neg (by decide)]
      exact fin


theorem nt_dash (h : Nat) : ¬ V.str (nt h) = V.str "-" := fun z => by
  injection z with z
  have z' := congrArg (fun x : Str => x.cps.toList) z
  have e : TL.numL h = [45] := (sg_nt h).symm.trans z'
  have := TL.numL_digits h 45 (by rw [e]; exact List.mem_singleton.mpr rfl)
  omega
theorem str_eqB {a b : Str} : decide (V.str a = V.str b) = decide (a = b) := decide_eq_decide.mpr ⟨fun e => by injection e, fun e => by rw [e]⟩
def MOk : MW → Prop
  | .num h => h ≤ 999
  | _ => True
theorem mw_dash {m : MW} : decide (wT m = "-") = (match m with | .dash => true | _ => false) := by
  cases m with
  | num h => rw [← str_eqB]; exact decide_eq_false (nt_dash h)
  | dash => rfl
  | z7 => exact decide_eq_false fun z => absurd (congrArg Str.length z) (by decide +kernel)
def spDrvG (L : List Addr) (P : Addr) : Sp := fun vs H Q _ => ∃ m : MW, vs = [.str (wT m)] ∧ MOk m ∧ Tabs L H ∧ P ∈ L ∧ ∀ H', KT L H H' → Q (mV (drvOf m)) H'
theorem rd_drvG (K : PySem.W.Frag) {L : List Addr} {P : Addr} : ∀ vs H Q E, spDrvG L P vs H Q E → run (t__drive_by K (spNumG K L P)) (L2.start N__drive_by vs) H Q := by
  rintro _ H Q _ ⟨m, rfl, hm, ht, hP, q⟩
  show run (t__drive_by K (spNumG K L P)) [some (.str (wT m)), none] H Q
  unfold t__drive_by
  walk_at "sx"
  refine g_eq rfl ⟨_, rfl, ?_⟩
  rw [show (Str.ofString "-") = "-" from rfl, str_eqB, mw_dash]
  cases m with
  | dash =>
    rw [if_pos rfl]
    exact q H (KT.refl _ _)
  | num h =>
    rw [if_neg (fun z => nomatch z)]
    unfold t__drive_by_r1
    walk_at "sx"
    refine ⟨.num h, 60, rfl, hm, .inl rfl, ht, hP, fun H1 k1 => ?_⟩
    walk_at "sx"
    have q1 := q H1 k1
    by_cases hh : h ≤ 60
    · have e : drvOf (.num h) = some ((h : Nat) : Int) := if_pos hh
      have e2 : numOf 60 (.num h) = some h := if_pos hh
      rw [e2]
      rw [e] at q1
      rw [if_neg (fun z => nomatch z)]
      exact q1
    · have e : drvOf (.num h) = some 0 := if_neg hh
      have e2 : numOf 60 (.num h) = none := if_neg hh
      rw [e2]
      rw [e] at q1
      rw [if_pos (show optV none = V.non from rfl)]
      exact q1
  | z7 =>
    rw [if_neg (by decide)]
    unfold t__drive_by_r1
    walk_at "sx"
    refine ⟨.z7, 60, rfl, trivial, .inl rfl, ht, hP, fun H1 k1 => ?_⟩
    walk_at "sx"
    rw [if_pos (show optV (numOf 60 MW.z7) = V.non from rfl)]
    exact q H1 k1
def spReachG (L : List Addr) (P : Addr) : Sp := fun vs H Q _ => ∃ (a : Addr) (h : Nat), vs = [.ref a, .str (nt h)] ∧ h ≤ 999 ∧ H a = some (.lst []) ∧ Tabs L H ∧ P ∈ L ∧ (120 < h → ∀ H', KT L H H' → Q (.bl false) H') ∧ (h ≤ 120 → ∀ H' H'', KT L H H' → Keep [a] H' H'' → H'' a = some (.lst [.int (h : Nat)]) → Q (.bl true) H'')
theorem rd_reachG (K : PySem.W.Frag) {L : List Addr} {P : Addr} : ∀ vs H Q E, spReachG L P vs H Q E → run (t__taken_reach K (spNumG K L P)) (L2.start N__taken_reach vs) H Q := by
  rintro _ H Q _ ⟨a, h, rfl, hh, ha, ht, hP, q0, q⟩
  show run (t__taken_reach K (spNumG K L P)) [some (.ref a), some (.str (nt h)), none] H Q
  unfold t__taken_reach
  walk_at "sx"
  refine ⟨.num h, 120, rfl, hh, .inr rfl, ht, hP, fun H1 k1 => ?_⟩
  walk_at "sx"
  by_cases h2 : h ≤ 120
  · have e2 : numOf 120 (.num h) = some h := if_pos h2
    rw [e2]
    have ha1 := k1.k _ _ (ht.lst ha) ha
    rw [if_neg (fun z => nomatch z)]
    unfold t__taken_reach_r1
    walk_at "sx"
    exact ⟨.inl ⟨rfl, _, .inl (.inl ha1)⟩, g_append ha1 (by exact len_lt (by decide)) fun H2 k2 e2 => q h2 H1 H2 k1 k2 e2⟩
  · have e2 : numOf 120 (.num h) = none := if_neg h2
    rw [e2]
    rw [if_pos (show optV none = V.non from rfl)]
    exact q0 (by omega) H1 k1
theorem g_inLS {K : PySem.W.Frag} {H : Hp} {a : Addr} {y : Str} {ys : List Str} {Q : VK} (h : H a = some (.lst (ys.map V.str))) (q : Q (.bl (decide (y ∈ ys))) H) : uIn K false (.str y) (.ref a) H Q :=
  .inl ⟨a, _, rfl, .inl (lst_sq h), rfl, by rw [List.all_map]; exact List.all_eq_true.mpr fun _ _ => rfl, by rw [if_neg (by decide), inV_str]; exact q⟩
theorem g_ninLS {K : PySem.W.Frag} {H : Hp} {a : Addr} {y : Str} {ys : List Str} {Q : VK} (h : H a = some (.lst (ys.map V.str))) (q : Q (.bl (!decide (y ∈ ys))) H) : uIn K true (.str y) (.ref a) H Q :=
  .inl ⟨a, _, rfl, .inl (lst_sq h), rfl, by rw [List.all_map]; exact List.all_eq_true.mpr fun _ _ => rfl, by rw [if_pos rfl, inV_str]; exact q⟩
def spStandG : Sp := fun vs H Q _ => ∃ (pl sl : Addr) (ys ss : List Str) (y : Str), vs = [.ref pl, .ref sl, .str y] ∧ H pl = some (.lst (ys.map V.str)) ∧ H sl = some (.lst (ss.map V.str)) ∧ ss.length ≤ 100 ∧
  (¬ (ss.length ≠ 5 ∧ y ∈ ys ∧ y ∉ ss) → Q (.bl false) H) ∧ (ss.length ≠ 5 ∧ y ∈ ys ∧ y ∉ ss → ∀ H', Keep [sl] H H' → H' sl = some (.lst ((ss ++ [y]).map V.str)) → Q (.bl true) H')
theorem rd_standG (K : PySem.W.Frag) : ∀ vs H Q E, spStandG vs H Q E → run (t__taken_stand K) (L2.start N__taken_stand vs) H Q := by
  rintro _ H Q _ ⟨pl, sl, ys, ss, y, rfl, hp, hs, l5, q0, q⟩
  show run (t__taken_stand K) [some (.ref pl), some (.ref sl), some (.str y)] H Q
  unfold t__taken_stand
  walk_at "sx"
  refine g_lenL hs (g_eq rfl ⟨_, rfl, ?_⟩)
  rw [List.length_map]
  by_cases h5 : ss.length = 5
  · rw [if_pos (decide_eq_true (by rw [h5]; rfl))]
    exact q0 fun z => z.1 h5
  rw [if_neg (by rw [decide_eq_false fun z => h5 (by injection z with z; omega)]; decide)]
  refine g_ninLS hp ⟨_, rfl, ?_⟩
  by_cases iy : y ∈ ys
  rotate_left
  · rw [if_pos (by rw [decide_eq_false iy]; rfl)]
    exact q0 fun z => iy z.2.1
  rw [if_neg (by rw [decide_eq_true iy]; decide)]
  refine g_inLS hs ⟨_, rfl, ?_⟩
  by_cases ny : y ∈ ss
  · rw [if_pos (decide_eq_true ny)]
    exact q0 fun z => z.2.2 ny
  rw [if_neg (by rw [decide_eq_false ny]; decide)]
  unfold t__taken_stand_r1
  walk_at "sx"
  exact ⟨.inl ⟨rfl, _, .inl (.inl hs)⟩, g_append hs (by rw [List.length_map]; exact len_lt (by omega)) fun H2 k2 e2 => q ⟨h5, iy, ny⟩ H2 k2 (by rw [List.map_append]; exact e2)⟩
def spPlaceG (L : List Addr) (P : Addr) : Sp := fun vs H Q _ => ∃ (a : Addr) (ys : List Str) (y : Str), vs = [.ref a, .str y] ∧ H a = some (.lst (ys.map V.str)) ∧ ys.length ≤ 100 ∧ y.length ≤ 1000 ∧ Tabs L H ∧ P ∈ L ∧
  (¬ (ys.length ≠ 10 ∧ nameV (.str y) = true ∧ y ∉ ys) → ∀ H', KT L H H' → Q (.bl false) H') ∧ (ys.length ≠ 10 ∧ nameV (.str y) = true ∧ y ∉ ys → ∀ H' H'', KT L H H' → Keep [a] H' H'' → H'' a = some (.lst ((ys ++ [y]).map V.str)) → Q (.bl true) H'')
theorem rd_placeG (K : PySem.W.Frag) {L : List Addr} {P : Addr} : ∀ vs H Q E, spPlaceG L P vs H Q E → run (t__taken_place K (spIsName K L P)) (L2.start N__taken_place vs) H Q := by
  rintro _ H Q _ ⟨a, ys, y, rfl, hp, l10, ly, ht, hP, q0, q⟩
  show run (t__taken_place K (spIsName K L P)) [some (.ref a), some (.str y)] H Q
  unfold t__taken_place
  walk_at "sx"
  refine g_lenL hp (g_eq rfl ⟨_, rfl, ?_⟩)
  rw [List.length_map]
  by_cases h10 : ys.length = 10
  · rw [if_pos (decide_eq_true (by rw [h10]; rfl))]
    exact q0 (fun z => z.1 h10) _ (KT.refl _ _)
  rw [if_neg (by rw [decide_eq_false fun z => h10 (by injection z with z; omega)]; decide)]
  refine ⟨.str y, rfl, .str y, fun z e => by injection e with e; rw [← e]; omega, ht, hP, fun H1 k1 => ?_⟩
  refine ⟨_, rfl, ?_⟩
  by_cases hn : nameV (.str y) = true
  rotate_left
  · rw [if_pos (by rw [Bool.eq_false_iff.mpr hn]; rfl)]
    exact q0 (fun z => hn z.2.1) _ k1
  rw [if_neg (by rw [hn]; decide)]
  have hp1 := k1.k _ _ (ht.lst hp) hp
  refine g_inLS hp1 ⟨_, rfl, ?_⟩
  by_cases ny : y ∈ ys
  · rw [if_pos (decide_eq_true ny)]
    exact q0 (fun z => z.2.2 ny) _ k1
  rw [if_neg (by rw [decide_eq_false ny]; decide)]
  unfold t__taken_place_r1
  walk_at "sx"
  exact ⟨.inl ⟨rfl, _, .inl (.inl hp1)⟩, g_append hp1 (by rw [List.length_map]; exact len_lt (by omega)) fun H2 k2 e2 => q ⟨h10, hn, ny⟩ H1 H2 k1 k2 (by rw [List.map_append]; exact e2)⟩
theorem g_unl {K : PySem.W.Frag} {p : Addr} {xs : List V} {n : Nat} {t : TGs} {σ : L2.St} {H : Hp} {Q : L2.St → Hp → Prop} (h : H p = some (.lst xs)) (l : xs.length = n) (q : t xs σ H Q) : gUnl K n t (.ref p) σ H Q := ⟨p, xs, rfl, lst_sq h, l, q⟩
def spRoadTG (L : List Addr) (P : Addr) : Sp := fun vs H Q _ => ∃ (pl rl wl : Addr) (ys : List Str) (us : List V) (rs : List Rd) (a b : Str) (m n : MW), vs = [.ref pl, .ref rl, .ref wl] ∧ H pl = some (.lst (ys.map V.str)) ∧ H rl = some (.lst us) ∧ RdsAt H us rs ∧ rs.length ≤ 100 ∧ H wl = some (.lst [.str "road", .str a, .str b, .str (wT m), .str (wT n)]) ∧ MOk m ∧ MOk n ∧ Tabs L H ∧ P ∈ L ∧
  (¬ (rs.length ≠ 18 ∧ roadB ys (roadOf a b m n) = true) → ∀ H', KT L H H' → Q (.bl false) H') ∧
  (rs.length ≠ 18 ∧ roadB ys (roadOf a b m n) = true → ∀ H' H'' us', KT L H H' → Keep [rl] H' H'' → H'' rl = some (.lst us') → RdsAt H'' us' (rs ++ [roadOf a b m n]) → Q (.bl true) H'')
theorem rd_roadTG (K : PySem.W.Frag) {L : List Addr} {P : Addr} : ∀ vs H Q E, spRoadTG L P vs H Q E → run (t__taken_road K (spDrvG L P) spRoadG) (L2.start N__taken_road vs) H Q := by
  rintro _ H Q _ ⟨pl, rl, wl, ys, us, rs, a, b, m, n, rfl, hp, hr, dr, l18, hw, hm, hn, ht, hP, q0, q⟩
  show run (t__taken_road K (spDrvG L P) spRoadG) [some (.ref pl), some (.ref rl), some (.ref wl), none, none, none, none, none, none] H Q
  unfold t__taken_road
  walk_at "sx"
  have lu := dr.len
  refine g_lenL hr (g_eq rfl ⟨_, rfl, ?_⟩)
  rw [lu]
  by_cases h18 : rs.length = 18
  · rw [if_pos (decide_eq_true (by rw [h18]; rfl))]
    exact q0 (fun z => z.1 h18) _ (KT.refl _ _)
  rw [if_neg (by rw [decide_eq_false fun z => h18 (by injection z with z; omega)]; decide)]
  unfold t__taken_road_r2
  walk_at "sx"
  refine g_unl hw rfl ?_
  walk_at "sx"
  refine ⟨_, _, rfl, _, _, rfl, _, _, rfl, _, _, rfl, _, _, rfl, rfl, ?_⟩
  walk_at "sx"
  refine ⟨m, rfl, hm, ht, hP, fun H1 k1 => ⟨n, rfl, hn, k1.t ht, hP, fun H2 k2 => ⟨by walk_at "sz", fun tp H3 n3 k3 t3 => ?_⟩⟩⟩
  walk_at "sx"
  have k12 := k1.trans k2
  have k13 := k12.trans (KT.of0 k3)
  have hp3 := k13.k _ _ (ht.lst hp) hp
  have hr3 := k13.k _ _ (ht.lst hr) hr
  have dr3 := dr.keep k13.k ht.noTup
  refine ⟨pl, tp, ys, roadOf a b m n, rfl, .inr hp3, t3, _, rfl, ?_⟩
  by_cases hb : roadB ys (roadOf a b m n) = true
  rotate_left
  · rw [if_pos (by rw [Bool.eq_false_iff.mpr hb]; rfl)]
    exact q0 (fun z => hb z.2) _ k13
  rw [if_neg (by rw [hb]; decide)]
  unfold t__taken_road_r1
  walk_at "sx"
  refine ⟨.inl ⟨rfl, _, .inl (.inl hr3)⟩, g_append hr3 (by exact len_lt (by omega)) fun H4 k4 e4 => q ⟨h18, hb⟩ H3 H4 _ k13 k4 e4 ?_⟩
  have nt : NoTup [rl] H3 := noTup1 hr3
  exact (dr3.keep k4 nt).snoc (r := roadOf a b m n) (t3.keep k4 (nt _ _ t3))


theorem join_signs {ws : List Str} {c : Nat} (h : c ∈ cl (Txt.join " " ws)) : c = 32 ∨ ∃ w ∈ ws, c ∈ cl w := by
  rw [TL.join_eq] at h
  have h' : c ∈ TL.joinL [32] (ws.map cl) := by
    have := TL.tl_join " " ws
    exact (show cl (Str.join " " ws) = TL.joinL [32] (ws.map cl) from this) ▸ h
  clear h
  induction ws with
  | nil => exact absurd h' (by simp [TL.joinL])
  | cons w r ih =>
    cases r with
    | nil => exact .inr ⟨w, List.mem_cons_self .., h'⟩
    | cons w2 r =>
      have h2 : c ∈ cl w ++ ([32] ++ TL.joinL [32] ((w2 :: r).map cl)) := h'
      rcases List.mem_append.mp h2 with h | h
      · exact .inr ⟨w, List.mem_cons_self .., h⟩
      · rcases List.mem_append.mp h with h | h
        · exact .inl (List.mem_singleton.mp h)
        · exact (ih h).imp id fun ⟨x, hx, hc⟩ => ⟨x, List.mem_cons_of_mem _ hx, hc⟩
def Plain (z : Str) : Prop := ∀ c ∈ cl z, c ≠ 32 ∧ c ≠ 10
theorem plain_name {y : Str} (h : NameOk (cl y)) : Plain y := fun c hc => by
  have := h.2.2.1 c hc
  unfold isSg isLt at this
  omega
theorem plain_nt (h : Nat) : Plain (nt h) := fun c hc => by
  have := TL.numL_digits h c (by rw [← sg_nt]; exact hc)
  omega
instance (z : Str) : Decidable (Plain z) := by unfold Plain; infer_instance
/-! ### a row is taken or not -/
def ROk : GRow → Prop
  | .pl y => Plain y ∧ y.length ≤ 12
  | .rd a b m n => (Plain a ∧ a.length ≤ 12) ∧ (Plain b ∧ b.length ≤ 12) ∧ MOk m ∧ MOk n
  | .st y => Plain y ∧ y.length ≤ 12
  | .re h => h ≤ 999
def StAt (H : Hp) (pl rl sl el : Addr) (S : TSt) : Prop := ∃ us, H pl = some (.lst (S.ps.map V.str)) ∧ H rl = some (.lst us) ∧ RdsAt H us S.rs ∧ H sl = some (.lst (S.ss.map V.str)) ∧ H el = some (.lst (S.es.map fun n : Nat => V.int (n : Nat)))
structure Dis (pl rl sl el : Addr) : Prop where
  a : pl ≠ rl
  b : pl ≠ sl
  c : pl ≠ el
  d : rl ≠ sl
  e : rl ≠ el
  f : sl ≠ el
structure Few (S : TSt) : Prop where
  p : S.ps.length ≤ 100
  r : S.rs.length ≤ 100
  s : S.ss.length ≤ 100
def spTakenG (L : List Addr) (P1 : Addr) : Sp := fun vs H Q _ => ∃ (pl rl sl el wl : Addr) (S : TSt) (r : GRow), vs = [.ref pl, .ref rl, .ref sl, .ref el, .ref wl] ∧ StAt H pl rl sl el S ∧ S.es = [] ∧ Dis pl rl sl el ∧ Few S ∧
  H wl = some (.lst ((wordsG r).map V.str)) ∧ ROk r ∧ Tabs L H ∧ P1 ∈ L ∧ (takeG S r = none → ∀ H', KT L H H' → Q (.bl false) H') ∧
  (∀ S', takeG S r = some S' → ∀ H9 HA c, KT L H H9 → c ∈ [pl, rl, sl, el] → Keep [c] H9 HA → StAt HA pl rl sl el S' → Q (.bl true) HA)
theorem g_word {K : PySem.W.Frag} {H : Hp} {wl : Addr} {w : Str} {ws : List Str} {z : Str} {Q : VK} (h : H wl = some (.lst ((w :: ws).map V.str))) (q : Q (.bl (decide (w = z))) H) : uIx K (.ref wl) (.int 0) H fun x H => uEq K false x (.str z) H Q := by
  refine g_ixL h (at_lit 0 rfl rfl) (g_eq rfl ?_)
  rw [str_eqB]
  exact q
theorem StAt.kt {L : List Addr} {H H' : Hp} {pl rl sl el : Addr} {S : TSt} (h : StAt H pl rl sl el S) (ht : Tabs L H) (k : KT L H H') : StAt H' pl rl sl el S := by
  obtain ⟨us, h1, h2, h3, h4, h5⟩ := h
  exact ⟨us, k.k _ _ (ht.lst h1) h1, k.k _ _ (ht.lst h2) h2, h3.keep k.k ht.noTup, k.k _ _ (ht.lst h4) h4, k.k _ _ (ht.lst h5) h5⟩
theorem rd_takenG (K : PySem.W.Frag) {L : List Addr} {P1 P2 : Addr} (h2 : P2 ∈ L) : ∀ vs H Q E, spTakenG L P1 vs H Q E → run (t__taken K (spPlaceG L P1) (spRoadTG L P2) spStandG (spReachG L P2)) (L2.start N__taken vs) H Q := by
  rintro _ H Q _ ⟨pl, rl, sl, el, wl, S, r, rfl, st, es, dis, few, hw, ok, ht, hP, q0, q⟩
  have st0 := st
  obtain ⟨us, hp, hr, dr, hs, he⟩ := st
  show run (t__taken K (spPlaceG L P1) (spRoadTG L P2) spStandG (spReachG L P2)) [some (.ref pl), some (.ref rl), some (.ref sl), some (.ref el), some (.ref wl)] H Q
  have lus := dr.len
  have q0' : takeG S r = none → Q (.bl false) H := fun e => q0 e H (KT.refl _ _)
  unfold t__taken
  walk_at "sx"
  cases r with
  | pl y =>
    refine g_word hw ⟨true, rfl, ?_⟩
    rw [if_pos rfl]
    refine g_lenL hw (g_eq rfl ⟨true, rfl, ?_⟩)
    rw [if_pos rfl]
    refine ⟨!us.isEmpty, g_truL hr rfl, ?_⟩
    have erp : S.rs = [] ↔ us = [] := by
      rw [← List.length_eq_zero_iff, ← lus, List.length_eq_zero_iff]
    by_cases er : S.rs = []
    · have er' := erp.mp er
      subst er'
      walk_at "sx"
      refine ⟨!(S.ss.map V.str).isEmpty, g_truL hs rfl, ?_⟩
      by_cases ess : S.ss = []
      · rw [ess] at hs
        rw [if_pos (by rw [ess]; rfl)]
        refine g_ixL hw (at_lit 1 rfl rfl) ⟨pl, S.ps, y, rfl, hp, few.p, by have := ok.2; omega, ht, hP, fun hn H' k => q0 ?_ H' k, fun hy H9 HA k9 kA eA => ?_⟩
        · exact if_neg fun z => hn ⟨z.2.2.1, z.2.2.2⟩
        · have et : takeG S (.pl y) = some { S with ps := S.ps ++ [y] } := if_pos ⟨er, ess, hy⟩
          have s9 := st0.kt ht k9
          obtain ⟨us9, h1, h2', h3, h4, h5⟩ := s9
          exact q _ et H9 HA pl k9 (by simp) kA ⟨us9, eA, kA _ _ (nin1 dis.a.symm) h2', h3.keep kA (noTup1 h1), kA _ _ (nin1 dis.b.symm) h4, kA _ _ (nin1 dis.c.symm) h5⟩
      · rw [if_neg (by cases h : S.ss with | nil => exact absurd h ess | cons a b => simp)]
        have : (!(!(S.ss.map V.str).isEmpty)) = false := by cases h : S.ss with | nil => exact absurd h ess | cons a b => rfl
        rw [this]
        exact q0' (if_neg fun z => ess z.2.1)
    · have er' : us ≠ [] := fun z => er (erp.mpr z)
      cases us with
      | nil => exact absurd rfl er'
      | cons u us =>
        walk_at "sx"
        exact q0' (if_neg fun z => er z.1)
  | rd a b m n =>
    refine g_word hw ⟨false, rfl, ?_⟩
    rw [if_neg (by decide)]
    unfold t__taken_r4
    walk_at "sx"
    refine g_word hw ⟨true, rfl, ?_⟩
    rw [if_pos rfl]
    refine g_lenL hw (g_eq rfl ⟨true, rfl, ?_⟩)
    rw [if_pos rfl]
    refine ⟨!(S.ss.map V.str).isEmpty, g_truL hs rfl, ?_⟩
    by_cases ess : S.ss = []
    · rw [if_pos (by rw [ess]; rfl)]
      refine ⟨pl, rl, wl, S.ps, us, S.rs, a, b, m, n, rfl, hp, hr, dr, few.r, hw, ok.2.2.1, ok.2.2.2, ht, h2, fun hn H' k => q0 ?_ H' k, fun hy H9 HA us' k9 kA eA dA => ?_⟩
      · exact if_neg fun z => hn z.2
      · have et : takeG S (.rd a b m n) = some { S with rs := S.rs ++ [roadOf a b m n] } := if_pos ⟨ess, hy⟩
        have s9 := st0.kt ht k9
        obtain ⟨us9, h1, h2', h3, h4, h5⟩ := s9
        exact q _ et H9 HA rl k9 (by simp) kA ⟨us', kA _ _ (nin1 dis.a) h1, eA, dA, kA _ _ (nin1 dis.d.symm) h4, kA _ _ (nin1 dis.e.symm) h5⟩
    · have e1 : (!(!(S.ss.map V.str).isEmpty)) = false := by cases h : S.ss with | nil => exact absurd h ess | cons a b => rfl
      rw [e1, if_neg (by decide)]
      exact q0' (if_neg fun z => ess z.1)
  | st y =>
    refine g_word hw ⟨false, rfl, ?_⟩
    rw [if_neg (by decide)]
    unfold t__taken_r4
    walk_at "sx"
    refine g_word hw ⟨false, rfl, ?_⟩
    rw [if_neg (by decide)]
    unfold t__taken_r3
    walk_at "sx"
    refine g_word hw ⟨true, rfl, ?_⟩
    rw [if_pos rfl]
    refine g_lenL hw (g_eq rfl ⟨true, rfl, ?_⟩)
    rw [if_pos rfl]
    refine g_ixL hw (at_lit 1 rfl rfl) ⟨pl, sl, S.ps, S.ss, y, rfl, hp, hs, few.s, fun hn => q0' (if_neg hn), fun hy HA kA eA => ?_⟩
    have et : takeG S (.st y) = some { S with ss := S.ss ++ [y] } := if_pos hy
    exact q _ et H HA sl (KT.refl _ _) (by simp) kA ⟨us, kA _ _ (nin1 dis.b) hp, kA _ _ (nin1 dis.d) hr, dr.keep kA (noTup1 hs), eA, kA _ _ (nin1 dis.f.symm) he⟩
  | re h =>
    refine g_word hw ⟨false, rfl, ?_⟩
    rw [if_neg (by decide)]
    unfold t__taken_r4
    walk_at "sx"
    refine g_word hw ⟨false, rfl, ?_⟩
    rw [if_neg (by decide)]
    unfold t__taken_r3
    walk_at "sx"
    refine g_word hw ⟨false, rfl, ?_⟩
    rw [if_neg (by decide)]
    unfold t__taken_r2
    walk_at "sx"
    refine g_word hw ⟨true, rfl, ?_⟩
    rw [if_pos rfl]
    refine g_lenL hw (g_eq rfl ⟨true, rfl, ?_⟩)
    rw [if_pos rfl]
    refine ⟨!(S.ss.map V.str).isEmpty, g_truL hs rfl, ?_⟩
    by_cases ess : S.ss = []
    · rw [if_neg (by rw [ess]; decide)]
      unfold t__taken_r1
      walk_at "sx"
      exact q0' (if_neg fun z => z.1 ess)
    · rw [if_pos (by cases h : S.ss with | nil => exact absurd h ess | cons a b => rfl)]
      have he0 : H el = some (.lst []) := by rw [he, es]; rfl
      refine g_ixL hw (at_lit 1 rfl rfl) ⟨el, h, rfl, ok, he0, ht, h2, fun hn H' k => q0 (if_neg fun z => by omega) H' k, fun hh H9 HA k9 kA eA => ?_⟩
      have et : takeG S (.re h) = some { S with es := S.es ++ [h] } := if_pos ⟨ess, hh⟩
      obtain ⟨us9, g1, g2, g3, g4, g5⟩ := st0.kt ht k9
      exact q _ et H9 HA el k9 (by simp) kA ⟨us9, kA _ _ (nin1 dis.c) g1, kA _ _ (nin1 dis.e) g2, g3.keep kA (noTup1 g5), kA _ _ (nin1 dis.f) g4, by rw [eA, es]; rfl⟩


/-! ### a text of such rows, read -/
def foldG : Nat → TSt → List GRow → Nat ⊕ TSt
  | _, S, [] => .inr S
  | i, S, r :: rs => if S.es ≠ [] then .inl i else match takeG S r with
    | none => .inl i
    | some S' => foldG (i + 1) S' rs
def S0 : TSt := ⟨[], [], [], []⟩
def resG (rows : List GRow) : Nat ⊕ Tn := match foldG 0 S0 rows with
  | .inl i => .inl i
  | .inr S => match S.es with
    | [] => .inl rows.length
    | h :: _ => .inr ⟨S.ps, S.rs, S.ss, (h : Nat)⟩
def gsText (rows : List GRow) : Str := Txt.join "\n" (rows.map gText)
structure GsOk (rows : List GRow) : Prop where
  ne : rows ≠ []
  few : rows.length ≤ 80
  ok : ∀ r ∈ rows, ROk r
def rowV (n : Nat) : HO := .xd [("row", .int (n : Nat))]
def spTownByG (CN : Addr) (L : List Addr) (P1 : Addr) : Sp := fun vs H Q E => ∃ rows : List GRow, vs = [.str (gsText rows)] ∧ GsOk rows ∧ Tabs L H ∧ P1 ∈ L ∧
  (∀ T, resG rows = .inr T → ∀ t H', KT L H H' → TnAt H' t T → Q (.ref t) H') ∧ (∀ i, resG rows = .inl i → ∀ d H', KT L H H' → H' d = some (rowV i) → E (.ref CN) (some d) H')
theorem plain_word {r : GRow} (h : ROk r) : ∀ w ∈ wordsG r, Plain w := by
  have pm : ∀ m : MW, Plain (wT m) := fun m => by
    cases m with
    | num h => exact plain_nt h
    | dash => exact (show Plain "-" by decide +kernel)
    | z7 => exact (show Plain "07" by decide +kernel)
  intro w hw
  cases r with
  | pl y =>
    rcases List.mem_cons.mp hw with rfl | hw
    · decide +kernel
    · rw [List.mem_singleton.mp hw]; exact h.1
  | st y =>
    rcases List.mem_cons.mp hw with rfl | hw
    · decide +kernel
    · rw [List.mem_singleton.mp hw]; exact h.1
  | re n =>
    rcases List.mem_cons.mp hw with rfl | hw
    · decide +kernel
    · rw [List.mem_singleton.mp hw]; exact plain_nt n
  | rd a b m n =>
    rcases List.mem_cons.mp hw with rfl | hw
    · decide +kernel
    rcases List.mem_cons.mp hw with rfl | hw
    · exact h.1.1
    rcases List.mem_cons.mp hw with rfl | hw
    · exact h.2.1.1
    rcases List.mem_cons.mp hw with rfl | hw
    · exact pm m
    · rw [List.mem_singleton.mp hw]; exact pm n
theorem splitG_row {r : GRow} (h : ROk r) : Txt.split (gText r) " " = wordsG r :=
  TL.split_join (y := " ") (s := 32) (S := []) rfl (by decide +kernel) (by cases r <;> exact fun z => nomatch z) fun w hw hc => (plain_word h w hw 32 hc).1 rfl
theorem splitG {rows : List GRow} (h : GsOk rows) : Txt.split (gsText rows) "\n" = rows.map gText := by
  refine TL.split_join (y := "\n") (s := 10) (S := []) rfl (by decide +kernel) (fun z => h.ne (List.map_eq_nil_iff.mp z)) fun p hp hc => ?_
  obtain ⟨r, hr, rfl⟩ := List.mem_map.mp hp
  rcases join_signs hc with e | ⟨w, hw, e⟩
  · exact absurd e (by decide)
  · exact (plain_word (h.ok r hr) w hw 10 e).2 rfl
theorem joinL_len (c : Nat) (b : Nat) : ∀ (ys : List Str), (∀ y ∈ ys, y.length ≤ b) → (TL.joinL [c] (ys.map cl)).length ≤ ys.length * (b + 1) := by
  intro ys
  induction ys with
  | nil => intro _; simp [TL.joinL]
  | cons y r ih =>
    intro h
    have hy := h y (List.mem_cons_self ..)
    rw [cl_len] at hy
    cases r with
    | nil =>
      show (cl y).length ≤ _
      simp only [List.length_cons, List.length_nil]
      omega
    | cons y2 r =>
      have h2 := ih fun z hz => h z (List.mem_cons_of_mem _ hz)
      show (cl y ++ ([c] ++ TL.joinL [c] ((y2 :: r).map cl))).length ≤ _
      rw [List.length_append, List.length_append]
      simp only [List.length_cons, List.length_nil] at h2 ⊢
      rw [Nat.succ_mul (r.length + 1)]
      omega
theorem wordG_len {r : GRow} (h : ROk r) : ∀ w ∈ wordsG r, w.length ≤ 12 := by
  have pm : ∀ m : MW, MOk m → (wT m).length ≤ 12 := fun m hm => by
    cases m with
    | num h => have : h ≤ 999 := hm; exact Nat.le_trans (nt_len (k := 3) (by decide) (by omega)) (by decide)
    | dash => exact (show ("-" : Str).length ≤ 12 by decide +kernel)
    | z7 => exact (show ("07" : Str).length ≤ 12 by decide +kernel)
  intro w hw
  cases r with
  | pl y =>
    rcases List.mem_cons.mp hw with rfl | hw
    · decide +kernel
    · rw [List.mem_singleton.mp hw]; exact h.2
  | st y =>
    rcases List.mem_cons.mp hw with rfl | hw
    · decide +kernel
    · rw [List.mem_singleton.mp hw]; exact h.2
  | re n =>
    rcases List.mem_cons.mp hw with rfl | hw
    · decide +kernel
    · rw [List.mem_singleton.mp hw]; exact Nat.le_trans (nt_len (k := 3) (by decide) (by have : n ≤ 999 := h; omega)) (by decide)
  | rd a b m n =>
    rcases List.mem_cons.mp hw with rfl | hw
    · decide +kernel
    rcases List.mem_cons.mp hw with rfl | hw
    · exact h.1.2
    rcases List.mem_cons.mp hw with rfl | hw
    · exact h.2.1.2
    rcases List.mem_cons.mp hw with rfl | hw
    · exact pm m h.2.2.1
    · rw [List.mem_singleton.mp hw]; exact pm n h.2.2.2
theorem gText_len {r : GRow} (h : ROk r) : (gText r).length ≤ 65 := by
  have e : cl (gText r) = TL.joinL [32] ((wordsG r).map cl) := by
    unfold gText
    rw [TL.join_eq]
    exact TL.tl_join " " _
  rw [cl_len, e]
  have h5 : (wordsG r).length ≤ 5 := by cases r <;> simp [wordsG]
  have := joinL_len 32 12 (wordsG r) (wordG_len h)
  omega
theorem gsText_len {rows : List GRow} (h : GsOk rows) : (gsText rows).length ≤ 6000 := by
  have e : cl (gsText rows) = TL.joinL [10] ((rows.map gText).map cl) := by
    unfold gsText
    rw [TL.join_eq]
    exact TL.tl_join "\n" _
  rw [cl_len, e]
  have := joinL_len 10 65 (rows.map gText) fun y hy => by
    obtain ⟨r, hr, rfl⟩ := List.mem_map.mp hy
    exact gText_len (h.ok r hr)
  rw [List.length_map] at this
  have := h.few
  omega
theorem raise_row {K : PySem.W.Frag} {C : Addr} {L : List Addr} {σ : L2.St} {H H1 : Hp} {E : XK} {i : Nat} (kk : KT L H H1) (q : ∀ d H', KT L H H' → H' d = some (rowV i) → E (.ref C) (some d) H') :
    [V.int (i : Nat)].length ≤ 1000 ∧ ∀ a, H1 a = none → spIni K C ["row"] (.ref a :: ([V.int (i : Nat)] ++ [])) (upd H1 a (exo a C none))
      (fun v H2 => v = .non ∧ ∃ (d : Addr) (gs : List (Str × V)), H2 a = some (exo a C (some d)) ∧ H2 d = some (exd d gs) ∧ H1 d = none ∧ E (.ref C) (some d) (upd (del H2 a) d (.xd gs))) (fun _ _ _ => False) :=
  g_mkO (fs := ["row"]) (Q := E) (σ := σ) rfl (by show 1 ≤ 1000; decide) fun d nd => q d _ (kk.trans (KT.of0 (Keep.new nd))) upd_same
theorem few_step {S S' : TSt} {r : GRow} (e : takeG S r = some S') : S'.ps.length ≤ S.ps.length + 1 ∧ S'.rs.length ≤ S.rs.length + 1 ∧ S'.ss.length ≤ S.ss.length + 1 := by
  cases r <;> simp only [takeG] at e <;> split at e <;> first | (cases e; done) | (have e' := Option.some.inj e; subst e'; simp)
theorem rd_townByG (K : PySem.W.Frag) {CN : Addr} {L : List Addr} {P1 : Addr} : ∀ vs H Q E, spTownByG CN L P1 vs H Q E → run (t_town_by K (spTakenG L P1) CN E) (L2.start N_town_by vs) H Q := by
  rintro _ H Q E ⟨rows, rfl, ok, ht, hP, good, bad⟩
  show run (t_town_by K (spTakenG L P1) CN E) [some (.str (gsText rows)), none, none, none, none, none, none, none] H Q
  unfold t_town_by
  walk_at "sx"
  refine g_isStr (.str _) ⟨true, rfl, ?_⟩
  rw [if_neg (by decide)]
  unfold t_town_by_r3
  walk_at "sx"
  refine ⟨⟨_, rfl⟩, _, _, rfl, rfl, by decide +kernel, len_le (by have := gsText_len ok; omega), fun wl H1 n1 k1 e1 => ?_⟩
  rw [splitG ok] at e1
  walk_at "sx"
  refine ⟨by walk_at "sz", fun pl H2 n2 k2 e2 => ?_⟩
  walk_at "sx"
  refine ⟨by walk_at "sz", fun rl H3 n3 k3 e3 => ?_⟩
  walk_at "sx"
  refine ⟨by walk_at "sz", fun sl H4 n4 k4 e4 => ?_⟩
  walk_at "sx"
  refine ⟨by walk_at "sz", fun el H5 n5 k5 e5 => ?_⟩
  walk_at "sx"
  have k05 : Keep [] H H5 := k1.trans (k2.trans (k3.trans (k4.trans k5)))
  have w5 : H5 wl = some (.lst ((rows.map gText).map V.str)) := k5 _ _ nin0 (k4 _ _ nin0 (k3 _ _ nin0 (k2 _ _ nin0 e1)))
  have p5 : H5 pl = some (.lst []) := k5 _ _ nin0 (k4 _ _ nin0 (k3 _ _ nin0 e2))
  have r5 : H5 rl = some (.lst []) := k5 _ _ nin0 (k4 _ _ nin0 e3)
  have s5 : H5 sl = some (.lst []) := k5 _ _ nin0 e4
  have nwp : wl ≠ pl := ne_of_none e1 n2
  have nwr : wl ≠ rl := ne_of_none (k2 _ _ nin0 e1) n3
  have nws : wl ≠ sl := ne_of_none (k3 _ _ nin0 (k2 _ _ nin0 e1)) n4
  have nwe : wl ≠ el := ne_of_none (k4 _ _ nin0 (k3 _ _ nin0 (k2 _ _ nin0 e1))) n5
  have dis : Dis pl rl sl el := ⟨ne_of_none e2 n3, ne_of_none (k3 _ _ nin0 e2) n4, ne_of_none (k4 _ _ nin0 (k3 _ _ nin0 e2)) n5, ne_of_none e3 n4, ne_of_none (k4 _ _ nin0 e3) n5, ne_of_none e4 n5⟩
  have hc0 : ∀ c ∈ [pl, rl, sl, el], H c = none ∧ c ≠ wl := by
    intro c hc
    simp only [List.mem_cons, List.not_mem_nil, or_false] at hc
    rcases hc with rfl | rfl | rfl | rfl
    · exact ⟨k1.free nin0 n2, nwp.symm⟩
    · exact ⟨(k1.trans k2).free nin0 n3, nwr.symm⟩
    · exact ⟨(k1.trans (k2.trans k3)).free nin0 n4, nws.symm⟩
    · exact ⟨(k1.trans (k2.trans (k3.trans k4))).free nin0 n5, nwe.symm⟩
  refine e_forEl.mpr ?_
  walk_at "sx"
  refine g_FEl (fun i σ H' => ∃ (y6 y7 : Option V) (S : TSt), σ = [some (.str (gsText rows)), some (.ref wl), some (.ref pl), some (.ref rl), some (.ref sl), some (.ref el), y6, y7] ∧ KT L H H' ∧ H' wl = some (.lst ((rows.map gText).map V.str)) ∧
      StAt H' pl rl sl el S ∧ foldG 0 S0 rows = foldG i S (rows.drop i) ∧ S.ps.length ≤ i ∧ S.rs.length ≤ i ∧ S.ss.length ≤ i)
    w5 ⟨_, _, S0, rfl, KT.of0 k05, w5, ⟨[], p5, r5, .nil, s5, e5⟩, rfl, Nat.le_refl _, Nat.le_refl _, Nat.le_refl _⟩ (fun i σ H' _ ⟨_, _, _, _, _, h, _⟩ => h) ?_ ?_
  · rintro i x σ H6 tp H7 hx ⟨y6, y7, S, rfl, kH, ew, st, fo, fp, fr, fs⟩ ntp ktp etp
    rw [List.map_map, List.getElem?_map] at hx
    obtain ⟨r, hr, rfl⟩ := Option.map_eq_some_iff.mp hx
    have hm := List.mem_of_getElem? hr
    have hi := (List.getElem?_eq_some_iff.mp hr).1
    have hi80 := ok.few
    have dr1 : rows.drop i = r :: rows.drop (i + 1) := by
      rw [List.drop_eq_getElem_cons hi]
      congr 1
      exact (List.getElem?_eq_some_iff.mp hr).2
    rw [dr1] at fo
    refine g_pair etp rfl ?_
    walk_at "sx"
    refine ⟨_, _, rfl, _, _, rfl, rfl, ?_⟩
    unfold t_town_by_b1
    walk_at "sx"
    have kH7 := kH.trans (KT.of0 ktp)
    have st7 := st.kt (kH.t ht) (KT.of0 ktp)
    obtain ⟨us7, g1, g2, g3, g4, g5⟩ := st7
    refine ⟨!(S.es.map fun n : Nat => V.int (n : Nat)).isEmpty, g_truL g5 rfl, ?_⟩
    by_cases ess : S.es = []
    rotate_left
    · rw [if_pos (by cases h : S.es with | nil => exact absurd h ess | cons a b => rfl)]
      have er : resG rows = .inl i := by
        unfold resG
        rw [fo]
        unfold foldG
        rw [if_pos ess]
      unfold tRaiseE tMkO
      walk_at "sx"
      exact raise_row (σ := []) kH7 (bad i er)
    rw [if_neg (by rw [ess]; decide)]
    have lr := gText_len (ok.ok r hm)
    refine ⟨⟨_, rfl⟩, _, _, rfl, rfl, by decide +kernel, len_le (by omega), fun ws H8 n8 k8 e8 => ?_⟩
    rw [splitG_row (ok.ok r hm)] at e8
    have kH8 := kH7.trans (KT.of0 k8)
    have st8 := st.kt (kH.t ht) (KT.of0 (ktp.trans k8))
    have ew8 := (ktp.trans k8) _ _ nin0 ew
    have fo2 : foldG 0 S0 rows = match takeG S r with
        | none => .inl i
        | some S' => foldG (i + 1) S' (rows.drop (i + 1)) := by
      rw [fo]
      conv => lhs; unfold foldG
      rw [if_neg (fun z => z ess)]
    refine ⟨pl, rl, sl, el, ws, S, r, rfl, st8, ess, dis, ⟨by omega, by omega, by omega⟩, e8, ok.ok r hm, kH8.t ht, hP, fun en H9 k9 => ⟨false, rfl, ?_⟩, fun S' es' H9 HA c k9 hc kA st' => ⟨true, rfl, ?_⟩⟩
    · rw [if_pos (by rfl)]
      have er : resG rows = .inl i := by
        unfold resG
        rw [fo2, en]
      unfold tRaiseE tMkO
      walk_at "sx"
      exact raise_row (σ := []) (kH8.trans k9) (bad i er)
    · rw [if_neg (by decide)]
      obtain ⟨hc1, hc2⟩ := hc0 c hc
      have kHA := (kH8.trans k9).past kA hc1 ht
      rw [es'] at fo2
      obtain ⟨l1, l2, l3⟩ := few_step es'
      exact ⟨_, _, S', rfl, kHA, kA _ _ (nin1 hc2.symm) (k9.k _ _ ((kH8.t ht).lst ew8) ew8), st', fo2, by omega, by omega, by omega⟩
  · rintro σ H6 ⟨y6, y7, S, rfl, kH, ew, ⟨us, ep, er, dr, es, ee⟩, fo, _, _, _⟩
    have full : rows.drop ((rows.map gText).map V.str).length = [] := by
      rw [List.length_map, List.length_map, List.drop_length]
    rw [full] at fo
    have fo' : foldG 0 S0 rows = .inr S := by rw [fo]; rfl
    unfold t_town_by_r2
    walk_at "sx"
    refine ⟨!(S.es.map fun n : Nat => V.int (n : Nat)).isEmpty, g_truL ee rfl, ?_⟩
    cases hes : S.es with
    | nil =>
      rw [if_pos (by rfl)]
      have er' : resG rows = .inl rows.length := by
        unfold resG
        rw [fo']
        show (match S.es with | [] => _ | h :: _ => _) = _
        rw [hes]
      unfold tRaiseE tMkO
      walk_at "sx"
      refine g_lenL ew ?_
      rw [List.length_map, List.length_map]
      exact raise_row (σ := []) kH (bad _ er')
    | cons h rest =>
      rw [if_neg (by simp)]
      have er' : resG rows = .inr ⟨S.ps, S.rs, S.ss, (h : Nat)⟩ := by
        unfold resG
        rw [fo']
        show (match S.es with | [] => _ | h :: _ => _) = _
        rw [hes]
      unfold t_town_by_r1
      walk_at "sx"
      rw [hes] at ee
      refine g_tupleL ep fun t1 H7 m1 j1 u1 => g_tupleL (j1 _ _ nin0 er) fun t2 H8 m2 j2 u2 => g_tupleL ((j1.trans j2) _ _ nin0 es) fun t3 H9 m3 j3 u3 => ?_
      have j69 := j1.trans (j2.trans j3)
      refine g_ixL (j69 _ _ nin0 ee) (at_lit 0 rfl rfl) ⟨by walk_at "sz", fun tp HA nA kA tA => ?_⟩
      have j6A := j69.trans kA
      exact good _ er' tp HA (kH.trans (KT.of0 j6A)) ⟨t1, t2, t3, us, tA, u1.keep (j2.trans (j3.trans kA)) nin0, u2.keep (j3.trans kA) nin0, dr.keep j6A noTup0, u3.keep kA nin0⟩


/-! ### what the law's own check tells -/
theorem dpAll_len {K : PySem.W.Frag} {H : Hp} : ∀ {vs : List V} {ds : List PyData}, DpAll K H vs ds → vs.length = ds.length
  | _, _, .nil => rfl
  | _, _, .cons _ r => congrArg (· + 1) (dpAll_len r)
theorem g_emptyL {K : PySem.W.Frag} {neg : Bool} {H : Hp} {a b : Addr} {vs : List V} {ds : List PyData} {Q : VK} (h : H a = some (.lst vs)) (d : DpAll K H vs ds) (c : PyData.canLayAll0 ds = true) (dp : PyData.depthAll ds ≤ 60) (e : H b = some (.lst [])) (q : Q (.bl (if neg then !vs.isEmpty else vs.isEmpty)) H) : uEq K neg (.ref a) (.ref b) H Q := by
  refine .inr ⟨_, _, .lst (lst_sq h) d, .lst (lst_sq e) .nil, ?_, by decide +kernel, ?_⟩
  · unfold SeqAt.shaped
    rw [Bool.and_eq_true_iff]
    exact ⟨by simp [PyData.canLay0, c], decide_eq_true (by simp only [PyData.depth]; omega)⟩
  · have l := dpAll_len d
    have e1 : PyData.eqv (.list ds) (.list []) = vs.isEmpty := by
      cases ds with
      | nil => rw [List.eq_nil_of_length_eq_zero l]; rfl
      | cons x xs => cases vs with
        | nil => simp at l
        | cons y ys => rfl
    rw [e1]
    exact q
theorem strOk_lo {y : Str} (h : Lo y) : PyData.strOk y = true := by
  unfold PyData.strOk
  rw [Array.all_eq_true]
  intro i hi
  have := h y.cps[i] (by rw [Array.mem_toList_iff]; exact Array.getElem_mem hi)
  exact decide_eq_true (by omega)
theorem lay_strsT : ∀ {ys : List Str}, (∀ y ∈ ys, Lo y) → PyData.canLayAll0 (ys.map .str) = true ∧ PyData.depthAll (ys.map .str) = 0
  | [], _ => by simp [PyData.canLayAll0, PyData.depthAll]
  | y :: ys, h => by
    obtain ⟨a, b⟩ := lay_strsT fun z hz => h z (.tail _ hz)
    simp [PyData.canLayAll0, PyData.depthAll, PyData.canLay0, PyData.depth, a, b, strOk_lo (h y (.head _))]
theorem dp_rdsP {K : PySem.W.Frag} {H : Hp} : ∀ {vs : List V} {rs : List Rd}, EI (fun v r => ∃ p, v = .ref p ∧ RdAt H p r) vs rs → DpAll K H vs (rs.map fun r => .tuple [.str r.one, .str r.two, mDp r.there, mDp r.back])
  | _, _, .nil => .nil
  | _, _, .cons ⟨_, e, h⟩ q => by subst e; exact .cons (.tup (Tup.sq h) (.cons (.str _) (.cons (.str _) (.cons (dp_mVp _) (.cons (dp_mVp _) .nil))))) (dp_rdsP q)
theorem lay_mDp (o : Option Int) : (mDp o).canLay0 = true ∧ (mDp o).depth = 0 := by cases o <;> simp [mDp, PyData.canLay0, PyData.depth]
theorem lay_rdsT : ∀ {rs : List Rd}, (∀ r ∈ rs, Lo r.one ∧ Lo r.two) → PyData.canLayAll0 (rs.map fun r => .tuple [.str r.one, .str r.two, mDp r.there, mDp r.back]) = true ∧ PyData.depthAll (rs.map fun r => .tuple [.str r.one, .str r.two, mDp r.there, mDp r.back]) ≤ 1
  | [], _ => by simp [PyData.canLayAll0, PyData.depthAll]
  | r :: rs, h => by
    obtain ⟨a, b⟩ := lay_rdsT fun z hz => h z (.tail _ hz)
    obtain ⟨o1, o2⟩ := h r (.head _)
    obtain ⟨x1, x2⟩ := lay_mDp r.there
    obtain ⟨y1, y2⟩ := lay_mDp r.back
    constructor
    · simp [PyData.canLayAll0, PyData.canLay0, a, strOk_lo o1, strOk_lo o2, x1, y1]
    · simp only [List.map_cons, PyData.depthAll, PyData.depth, x2, y2]
      omega
def spWholeL : Sp := fun vs H Q _ => ∃ i lo hi : Int, vs = [.int i, .int lo, .int hi] ∧ Q (.bl (decide (lo ≤ i) && decide (i ≤ hi))) H
theorem rd_wholeL (K : PySem.W.Frag) : ∀ vs H Q E, spWholeL vs H Q E → run (t__law_whole K) (L2.start N__law_whole vs) H Q := by
  rintro _ H Q _ ⟨i, lo, hi, rfl, q⟩
  show run (t__law_whole K) [some (.int i), some (.int lo), some (.int hi)] H Q
  unfold t__law_whole
  walk_at "sx"
  refine g_isi (.base (.int i)) kit_int_int ⟨true, rfl, ?_⟩
  rw [if_pos rfl]
  refine g_isi (.base (.int i)) kit_int_bool ⟨false, rfl, ?_⟩
  walk_at "sx"
  by_cases h : lo ≤ i <;> simpa [h, e_rI0, e_truB] using q
theorem rd_lawWay (K : PySem.W.Frag) : ∀ vs H Q E, spDrv vs H Q E → run (t__law_is_way K spWholeL) (L2.start N__law_is_way vs) H Q := by
  rintro _ H Q _ ⟨m, rfl, q⟩
  show run (t__law_is_way K spWholeL) [some (mV m)] H Q
  unfold t__law_is_way
  walk_at "sx"
  cases m with
  | none =>
    rw [if_pos (show mV none = V.non from rfl)]
    exact q
  | some i =>
    rw [if_neg (fun z => nomatch z)]
    exact ⟨i, 1, 60, rfl, q⟩
theorem PlAt.keep0 {H H' : Hp} {a : Addr} {ys : List Str} (h : PlAt H a ys) (k : Keep [] H H') : PlAt H' a ys := h.imp (fun h => h.keep k nin0) fun h => k _ _ nin0 h
def lroadB (ys : List Str) (r : Rd) : Bool := !(r.there.isNone && r.back.isNone) && (nameV (.str r.one) && (nameV (.str r.two) && (!decide (r.one = r.two) && (decide (r.one ∈ ys) && (decide (r.two ∈ ys) && (isDrv (mV r.there) && isDrv (mV r.back)))))))
def spRoadL : Sp := fun vs H Q _ => ∃ (pl rp : Addr) (ys : List Str) (r : Rd), vs = [.ref pl, .ref rp] ∧ PlAt H pl ys ∧ RdAt H rp r ∧ Tx r.one ∧ Tx r.two ∧ ∀ H', Keep [] H H' → Q (.bl (lroadB ys r)) H'
theorem rd_roadL (K : PySem.W.Frag) : ∀ vs H Q E, spRoadL vs H Q E → run (t__law_is_road K (spIsL K) spDrv) (L2.start N__law_is_road vs) H Q := by
  rintro _ H Q _ ⟨pl, rp, ys, r, rfl, hl, hr, x1, x2, q⟩
  show run (t__law_is_road K (spIsL K) spDrv) [some (.ref pl), some (.ref rp)] H Q
  unfold t__law_is_road
  walk_at "sx"
  refine g_isi (ty_tup hr) kit_tuple_tuple ⟨true, rfl, ?_⟩
  rw [if_neg (by decide)]
  refine g_lenT hr (g_ne rfl ⟨false, rfl, ?_⟩)
  rw [if_neg (by decide)]
  have no : lroadB ys r = false → ∀ H', Keep [] H H' → Q (.bl false) H' := fun e H' k => by rw [← e]; exact q H' k
  have c3 : (r.there.isNone && r.back.isNone) = false → t__law_is_road_r3 K (spIsL K) spDrv { nx := fun x H' => Q V.non H', rt := Q } [some (.ref pl), some (.ref rp)] H := fun hn => by
    unfold t__law_is_road_r3
    walk_at "sx"
    refine g_ixT hr (at_lit 0 rfl rfl) ⟨.str r.one, rfl, .str _, fun z e => by injection e with e; rw [← e]; exact ⟨Nat.le_trans x1.1 (by decide), x1.2⟩, fun H1 k1 => ⟨_, rfl, ?_⟩⟩
    cases h1 : nameV (.str r.one) with
    | false =>
      rw [if_pos (by decide)]
      exact no (by unfold lroadB; rw [hn, h1]; rfl) H1 k1
    | true =>
    rw [if_neg (by decide)]
    have hr1 : RdAt H1 rp r := Tup.keep hr k1 nin0
    refine g_ixT hr1 (at_lit 1 rfl rfl) ⟨.str r.two, rfl, .str _, fun z e => by injection e with e; rw [← e]; exact ⟨Nat.le_trans x2.1 (by decide), x2.2⟩, fun H2 k2 => ⟨_, rfl, ?_⟩⟩
    have k02 := k1.trans k2
    cases h2 : nameV (.str r.two) with
    | false =>
      rw [if_pos (by decide)]
      exact no (by unfold lroadB; rw [hn, h1, h2]; rfl) H2 k02
    | true =>
    rw [if_neg (by decide)]
    have hr2 : RdAt H2 rp r := Tup.keep hr k02 nin0
    have hl2 := hl.keep0 k02
    refine g_ixT hr2 (at_lit 0 rfl rfl) (g_ixT hr2 (at_lit 1 rfl rfl) (g_eq rfl ⟨_, rfl, ?_⟩))
    rw [str_ne]
    by_cases h3 : r.one = r.two
    · rw [if_pos (decide_eq_true h3)]
      exact no (by unfold lroadB; rw [hn, h1, h2, decide_eq_true h3]; rfl) H2 k02
    rw [if_neg (by rw [decide_eq_false h3]; decide)]
    unfold t__law_is_road_r2
    walk_at "sx"
    refine g_ixT hr2 (at_lit 0 rfl rfl) (g_ninPl hl2 ⟨_, rfl, ?_⟩)
    by_cases h4' : ¬ (r.one ∈ ys)
    · rw [if_pos (by rw [decide_eq_false h4']; rfl)]
      exact no (by unfold lroadB; rw [hn, h1, h2, decide_eq_false h3, decide_eq_false h4']; rfl) H2 k02
    have h4 := Decidable.not_not.mp h4'
    rw [if_neg (by rw [decide_eq_true h4]; decide)]
    refine g_ixT hr2 (at_lit 1 rfl rfl) (g_ninPl hl2 ⟨_, rfl, ?_⟩)
    by_cases h5' : ¬ (r.two ∈ ys)
    · rw [if_pos (by rw [decide_eq_false h5']; rfl)]
      exact no (by unfold lroadB; rw [hn, h1, h2, decide_eq_false h3, decide_eq_true h4, decide_eq_false h5']; rfl) H2 k02
    have h5 := Decidable.not_not.mp h5'
    rw [if_neg (by rw [decide_eq_true h5]; decide)]
    have e : lroadB ys r = (isDrv (mV r.there) && isDrv (mV r.back)) := by unfold lroadB; rw [hn, h1, h2, decide_eq_false h3, decide_eq_true h4, decide_eq_true h5]; rfl
    unfold t__law_is_road_r1
    walk_at "sx"
    refine g_ixT hr2 (at_lit 2 rfl rfl) ⟨r.there, rfl, _, rfl, ?_⟩
    have q2 := q H2 k02
    rw [e] at q2
    cases hd : isDrv (mV r.there) with
    | false =>
      rw [hd] at q2
      rw [if_neg (by decide)]
      exact q2
    | true =>
      rw [hd] at q2
      rw [if_pos rfl]
      exact g_ixT hr2 (at_lit 3 rfl rfl) ⟨r.back, rfl, q2⟩
  refine g_ixT hr (at_lit 2 rfl rfl) ?_
  walk_at "sx"
  have mn : ∀ m : Option Int, mV m = V.non ↔ m.isNone = true := fun m => by cases m <;> simp [mV]
  split
  · rename_i h1
    refine g_ixT hr (at_lit 3 rfl rfl) ?_
    walk_at "sx"
    split
    · rename_i h2
      exact no (by unfold lroadB; rw [(mn _).mp h1, (mn _).mp h2]; rfl) H (Keep.refl _ _)
    · rename_i h2
      exact c3 (by rw [Bool.and_eq_false_iff]; exact .inr (by rw [Bool.eq_false_iff]; exact fun z => h2 ((mn _).mpr z)))
  · rename_i h1
    exact c3 (by rw [Bool.and_eq_false_iff]; exact .inl (by rw [Bool.eq_false_iff]; exact fun z => h1 ((mn _).mpr z)))
/-! ### towns of the pen as data -/
theorem dp_mapP {K : PySem.W.Frag} {H : Hp} {α : Type} (f : α → V) (g : α → PyData) : ∀ (xs : List α), (∀ x ∈ xs, Dp K H (f x) (g x)) → DpAll K H (xs.map f) (xs.map g)
  | [], _ => .nil
  | x :: xs, h => .cons (h x List.mem_cons_self) (dp_mapP f g xs fun y hy => h y (List.mem_cons_of_mem _ hy))
def rdD (r : Rd) : PyData := .tuple [.str r.one, .str r.two, mDp r.there, mDp r.back]
theorem dp_rds {K : PySem.W.Frag} {H : Hp} : ∀ {vs : List V} {rs : List Rd}, RdsAt H vs rs → DpAll K H vs (rs.map rdD)
  | _, _, .nil => .nil
  | _, _, .cons h q => .cons (.tup (Tup.sq h) (.cons (.str _) (.cons (.str _) (.cons (dp_mVp _) (.cons (dp_mVp _) .nil))))) (dp_rds q)
def tnD (T : Tn) : PyData := .tuple [.tuple (T.places.map .str), .tuple (T.roads.map rdD), .tuple (T.stands.map .str), .int T.reach]
theorem dp_tn {K : PySem.W.Frag} {H : Hp} {t : Addr} {T : Tn} (h : TnAt H t T) : Dp K H (.ref t) (tnD T) := by
  obtain ⟨ap, ar, as, vs, h1, h2, h3, h4, h5⟩ := h
  exact .tup h1.sq (.cons (.tup h2.sq (dp_mapP _ _ _ fun x _ => .str x)) (.cons (.tup h3.sq (dp_rds h4)) (.cons (.tup h5.sq (dp_mapP _ _ _ fun x _ => .str x)) (.cons (.int _) .nil))))
theorem fines_mapP {α : Type} (g : α → PyData) : ∀ (xs : List α), (∀ x ∈ xs, fine (g x)) → fines (xs.map g)
  | [], _ => trivial
  | x :: xs, h => ⟨h x List.mem_cons_self, fines_mapP g xs fun y hy => h y (List.mem_cons_of_mem _ hy)⟩
theorem costs_mapP {α : Type} (g : α → PyData) (b : Nat) : ∀ (xs : List α), (∀ x ∈ xs, cost (g x) ≤ b) → costs (xs.map g) ≤ xs.length * (b + 2)
  | [], _ => by simp [costs]
  | x :: xs, h => by
    have h1 := h x List.mem_cons_self
    have h2 := costs_mapP g b xs fun y hy => h y (List.mem_cons_of_mem _ hy)
    simp only [List.map_cons, costs, List.length_cons, Nat.add_mul]
    omega
theorem depth_mapP {α : Type} (g : α → PyData) (b : Nat) : ∀ (xs : List α), (∀ x ∈ xs, (g x).depth ≤ b) → PyData.depthAll (xs.map g) ≤ b
  | [], _ => by simp [PyData.depthAll]
  | x :: xs, h => by
    have h1 := h x List.mem_cons_self
    have h2 := depth_mapP g b xs fun y hy => h y (List.mem_cons_of_mem _ hy)
    simp only [List.map_cons, PyData.depthAll]
    omega
/-- small data: fine, of few signs, of few levels -/
structure Sm (c k : Nat) (d : PyData) : Prop where
  f : fine d
  c : cost d ≤ c
  d : d.depth ≤ k
theorem Sm.mono {c c' k k' : Nat} {d : PyData} (h : Sm c k d) (l : c ≤ c') (m : k ≤ k') : Sm c' k' d := ⟨h.f, Nat.le_trans h.c l, Nat.le_trans h.d m⟩
theorem sm_name {y : Str} (h : NameOk (cl y)) : Sm 82 0 (.str y) := ⟨fun c hc => by
    have := h.2.2.1 c hc
    unfold isSg isLt at this
    have : c ≤ 122 := by omega
    exact Nat.lt_of_le_of_lt this (by decide), by show 10 * y.length + 2 ≤ 82; have := h.2.1; rw [← cl_len] at this; omega, by simp [PyData.depth]⟩
theorem sm_mDp {o : Option Int} (h : minOk o) : Sm 1921 0 (mDp o) := by
  cases o with
  | none => exact ⟨trivial, by decide, by simp [mDp, PyData.depth]⟩
  | some i => exact ⟨log_small (by have := h i rfl; omega) (by have := h i rfl; omega), Nat.le_refl _, by simp [mDp, PyData.depth]⟩
theorem sm_tup {α : Type} {c k : Nat} (g : α → PyData) (xs : List α) (h : ∀ x ∈ xs, Sm c k (g x)) : Sm (xs.length * (c + 2) + 3) (k + 1) (.tuple (xs.map g)) :=
  ⟨fines_mapP g xs fun x hx => (h x hx).f, Nat.add_le_add_right (costs_mapP g c xs fun x hx => (h x hx).c) 3, by
    have := depth_mapP g k xs fun x hx => (h x hx).d
    simp only [PyData.depth]
    omega⟩
theorem sm_rd {T : Tn} (ok : TnOk T) : ∀ r ∈ T.roads, Sm 5000 1 (rdD r) := fun r hr => by
  have o := ok.rd r hr
  have a := sm_name (ok.nm _ o.one)
  have b := sm_name (ok.nm _ o.two)
  have c := sm_mDp o.there
  have d := sm_mDp o.back
  have ac := a.c
  have bc := b.c
  have cc := c.c
  have dc := d.c
  have ad := a.d
  have bd := b.d
  have cd := c.d
  have dd := d.d
  refine ⟨⟨a.f, b.f, c.f, d.f, trivial⟩, ?_, ?_⟩
  · show cost (.str r.one) + 2 + (cost (.str r.two) + 2 + (cost (mDp r.there) + 2 + (cost (mDp r.back) + 2 + 0))) + 3 ≤ 5000
    omega
  · unfold rdD
    simp only [PyData.depth, PyData.depthAll] at *
    omega
theorem sm_tn {T : Tn} (ok : TnOk T) : Sm 120000 3 (tnD T) := by
  have a := sm_tup (α := Str) (c := 82) (k := 0) PyData.str T.places fun y hy => sm_name (ok.nm y hy)
  have b := sm_tup rdD T.roads (sm_rd ok)
  have c := sm_tup (α := Str) (c := 82) (k := 0) PyData.str T.stands fun y hy => sm_name (ok.nm y (ok.sp y hy))
  have ac := a.c
  have bc := b.c
  have cc := c.c
  have ad := a.d
  have bd := b.d
  have cd := c.d
  have p10 := ok.p10
  have r18 := ok.r18
  have s5 := ok.s5
  have r0 := ok.re0
  have r1 := ok.re1
  refine ⟨⟨a.f, b.f, c.f, log_small (i := T.reach) r0 (by omega), trivial⟩, ?_, ?_⟩
  · show cost (.tuple (T.places.map .str)) + 2 + (cost (.tuple (T.roads.map rdD)) + 2 + (cost (.tuple (T.stands.map .str)) + 2 + (1921 + 2 + 0))) + 3 ≤ 120000
    omega
  · unfold tnD
    simp only [PyData.depth, PyData.depthAll] at *
    omega
theorem th_tn {K : PySem.W.Frag} {H : Hp} {t : Addr} {T : Tn} (h : TnAt H t T) (ok : TnOk T) : Th K H (.ref t) (tnD T) := by
  have s := sm_tn ok
  exact .dp (dp_tn h) s.f (Nat.le_trans s.c (by decide)) (Nat.le_trans s.d (by decide))


/-! ### words as numbers, by the law -/
def lawNum : MW → Int
  | .num h => (h : Nat)
  | _ => -1
def lawWay : MW → Option Int
  | .dash => none
  | m => some (lawNum m)
theorem allFig {w : MW} (hw : WOk w) : ∀ c ∈ sg (wT w), c ∈ sg FIG := by
  intro c hc
  cases w with
  | num h =>
    have hc' : c ∈ sg (nt h) := hc
    rw [sg_nt] at hc'
    have := TL.numL_digits h c hc'
    exact fig_of this.1 this.2
  | dash => exact hw.elim
  | z7 =>
    have hc' : c ∈ [48, 55] := hc
    simp at hc'
    rcases hc' with rfl | rfl <;> decide +kernel
def spNumL : Sp := fun vs H Q _ => ∃ w : MW, vs = [.str (wT w)] ∧ WOk w ∧ ∀ H', Keep [] H H' → Q (.int (lawNum w)) H'
theorem rd_numL (K : PySem.W.Frag) : ∀ vs H Q E, spNumL vs H Q E → run (t__law_number K) (L2.start N__law_number vs) H Q := by
  rintro _ H Q _ ⟨w, rfl, hw, q⟩
  show run (t__law_number K) [some (.str (wT w)), none] H Q
  have lw : 1 ≤ (wT w).length ∧ (wT w).length ≤ 3 := by
    cases w with
    | num h => exact ⟨nt_pos h, nt_len (by decide) (by have : h ≤ 999 := hw; omega)⟩
    | dash => exact hw.elim
    | z7 => exact ⟨by decide +kernel, by decide +kernel⟩
  unfold t__law_number
  walk_at "sx"
  refine g_eq rfl ⟨_, rfl, ?_⟩
  have ne0 : ¬ V.str (wT w) = V.str "" := fun z => by
    injection z with z
    have := congrArg Str.length z
    rw [show ("" : Str).length = 0 from rfl] at this
    omega
  rw [if_neg (by rw [decide_eq_false ne0]; decide)]
  refine g_lenS (len_le (by omega)) (e_rI0.mpr ⟨_, rfl, ?_⟩)
  rw [if_neg (by rw [decide_eq_false (by omega)]; decide)]
  refine g_first lw.1 (by omega) (g_eq rfl ⟨_, rfl, ?_⟩)
  have fin : (∃ h, w = .num h) → t__law_number_r2 K { nx := fun x H' => Q V.non H', rt := Q } [some (.str (wT w)), none] H := fun ⟨h, e⟩ => by
    unfold t__law_number_r2
    walk_at "sx"
    refine g_CS (S := []) (fun _ h => (List.not_mem_nil h).elim) ⟨fun i H' acc => acc = [], fun _ _ _ _ => rfl, ?_, ?_⟩
    · rintro D i H1 acc R R0 nD hi k1 eD rfl hR hR0
      have sz : (wT w).cps.size = (sg (wT w)).length := by simp
      have hi' : i < (sg (wT w)).length := by rw [← sz]; exact hi
      have hg : (sg (wT w))[i]? = some (sg (wT w))[i] := List.getElem?_eq_getElem hi'
      have e : (wT w).cps.getD i 0 = (sg (wT w))[i] := by
        rw [Array.getD_eq_getD_getElem?, ← Array.getElem?_toList]
        show ((sg (wT w))[i]?).getD 0 = _
        rw [hg]
        rfl
      show gName 1 (.str ⟨#[(wT w).cps.getD i 0]⟩) _ _ _
      rw [e]
      have mem := allFig hw _ (List.mem_of_getElem? hg)
      generalize (sg (wT w))[i] = c at mem
      walk_at "sx"
      refine g_ninC ⟨_, rfl, ?_⟩
      rw [if_neg (by rw [decide_eq_true mem]; decide)]
      exact hR0 _ (Keep.refl _ _) rfl
    · rintro D H1 acc nD k1 eD rfl
      refine ⟨by walk_at "sz", fun z H2 n2 k2 e2 => ?_⟩
      refine g_emptyL (ds := []) (k2 _ _ nin0 eD) .nil rfl (by simp [PyData.depthAll]) e2 ⟨false, by simp, ?_⟩
      rw [if_neg (by decide)]
      unfold t__law_number_r1
      walk_at "sx"
      subst e
      have l5 : (nt h).length ≤ 5 := by have : (nt h).length ≤ 3 := lw.2; omega
      exact ⟨nt h, h, rfl, TL.int_num (Nat.le_trans (by rw [← sg_nt, sg_len]; exact l5) (by decide)), by have : h ≤ 999 := hw; omega, q H2 (k1.trans k2)⟩
  cases w with
  | dash => exact hw.elim
  | z7 =>
    rw [decide_eq_true (show V.str (s1 ((sg (wT .z7)).getD 0 0)) = V.str "0" from rfl), if_pos rfl]
    refine g_ne rfl ⟨_, rfl, ?_⟩
    rw [if_pos (by rw [decide_eq_false (show ¬ V.str (wT .z7) = V.str "0" from fun z => absurd (congrArg (fun v => match v with | .str s => s.length | _ => 0) z) (by decide +kernel))]; rfl)]
    exact q H (Keep.refl _ _)
  | num h =>
    by_cases h0 : h = 0
    · subst h0
      split
      · refine g_ne rfl ⟨_, rfl, ?_⟩
        rw [if_neg (by rw [decide_eq_true (show V.str (wT (.num 0)) = V.str "0" from rfl)]; decide)]
        exact fin ⟨_, rfl⟩
      · exact fin ⟨_, rfl⟩
    · obtain ⟨c, r, e, hc⟩ := num_head h (by omega)
      have ne : ¬ V.str (s1 ((sg (nt h)).getD 0 0)) = V.str "0" := fun z => by
        injection z with z
        have z' := congrArg (fun x : Str => x.cps.toList) z
        rw [sg_nt, e] at z'
        have z2 : [c] = [48] := z'
        injection z2 with z2
        omega
      rw [show wT (.num h) = nt h from rfl, decide_eq_false ne, if_neg (by decide)]
      exact fin ⟨_, rfl⟩
def spWayL : Sp := fun vs H Q _ => ∃ m : MW, vs = [.str (wT m)] ∧ MOk m ∧ ∀ H', Keep [] H H' → Q (mV (lawWay m)) H'
theorem rd_wayL (K : PySem.W.Frag) : ∀ vs H Q E, spWayL vs H Q E → run (t__law_way_in K spNumL) (L2.start N__law_way_in vs) H Q := by
  rintro _ H Q _ ⟨m, rfl, hm, q⟩
  show run (t__law_way_in K spNumL) [some (.str (wT m))] H Q
  unfold t__law_way_in
  walk_at "sx"
  refine g_eq rfl ⟨_, rfl, ?_⟩
  rw [show (Str.ofString "-") = "-" from rfl, str_eqB, mw_dash]
  cases m with
  | dash =>
    rw [if_pos rfl]
    exact q H (Keep.refl _ _)
  | num h =>
    rw [if_neg (fun z => nomatch z)]
    unfold t__law_way_in_r1
    walk_at "sx"
    exact ⟨.num h, rfl, hm, q⟩
  | z7 =>
    rw [if_neg (fun z => nomatch z)]
    unfold t__law_way_in_r1
    walk_at "sx"
    exact ⟨.z7, rfl, trivial, q⟩
/-- what the law's reading of a road tells, and what the program's does -/
theorem way_same (m : MW) : isDrv (mV (lawWay m)) = isDrv (mV (drvOf m)) ∧ (lawWay m).isNone = (drvOf m).isNone ∧ (isDrv (mV (lawWay m)) = true → lawWay m = drvOf m) := by
  cases m with
  | dash => exact ⟨rfl, rfl, fun _ => rfl⟩
  | z7 => exact ⟨rfl, rfl, fun h => absurd h (by decide)⟩
  | num h =>
    by_cases hh : h ≤ 60
    · have e : drvOf (.num h) = some ((h : Nat) : Int) := if_pos hh
      rw [e]
      exact ⟨rfl, rfl, fun _ => rfl⟩
    · have e : drvOf (.num h) = some 0 := if_neg hh
      rw [e]
      have f : isDrv (mV (lawWay (.num h))) = false := by
        show (decide ((1 : Int) ≤ (h : Nat)) && decide (((h : Nat) : Int) ≤ 60)) = false
        rw [decide_eq_false (show ¬ ((h : Nat) : Int) ≤ 60 by omega), Bool.and_false]
      exact ⟨f, rfl, fun z => by rw [f] at z; cases z⟩
def roadL (a b : Str) (m n : MW) : Rd := ⟨a, b, lawWay m, lawWay n⟩
theorem road_same {ys : List Str} (nm : ∀ y ∈ ys, nameV (.str y) = true) (a b : Str) (m n : MW) : lroadB ys (roadL a b m n) = roadB ys (roadOf a b m n) ∧ (roadB ys (roadOf a b m n) = true → roadL a b m n = roadOf a b m n) := by
  obtain ⟨w1, w2, w3⟩ := way_same m
  obtain ⟨v1, v2, v3⟩ := way_same n
  constructor
  · unfold lroadB roadB roadL roadOf
    simp only
    rw [w1, v1, w2, v2]
    by_cases ha : a ∈ ys
    · by_cases hb : b ∈ ys
      · rw [nm a ha, nm b hb, decide_eq_true ha, decide_eq_true hb]
        cases (drvOf m).isNone && (drvOf n).isNone <;> cases decide (a = b) <;> simp
      · rw [decide_eq_false hb]
        simp
    · rw [decide_eq_false ha]
      simp
  · intro h
    unfold roadB roadOf at h
    simp only [Bool.and_eq_true, decide_eq_true_eq] at h
    obtain ⟨_, _, _, _, h1, h2⟩ := h
    unfold roadL roadOf
    rw [w3 (by rw [w1]; exact h1), v3 (by rw [v1]; exact h2)]


/-! ### a row can stand, by the law -/
structure InvS (S : TSt) : Prop where
  p : S.ps.length ≤ 10
  r : S.rs.length ≤ 18
  s : S.ss.length ≤ 5
  e : S.es.length ≤ 1
  pn : ∀ y ∈ S.ps, nameV (.str y) = true
  pl : ∀ y ∈ S.ps, Lo y
  rl : ∀ r ∈ S.rs, Lo r.one ∧ Lo r.two
  sl : ∀ y ∈ S.ss, Lo y
theorem cut_butLast {xs : List V} {v : V} (l : xs.length ≤ 1000) : cutV (xs ++ [v]) none (some (-1)) = xs := by
  unfold cutV
  have e : HT.sIx (xs ++ [v]).length (xs ++ [v]).length (some (-1)) = xs.length := by
    unfold HT.sIx
    simp
    omega
  have e0 : HT.sIx (xs ++ [v]).length 0 none = 0 := rfl
  rw [e, e0, List.drop_zero, Nat.sub_zero]
  simp
theorem at_last {xs : List V} {v : V} {n : Nat} (l : xs.length = n) (h0 : 0 < n) (h : xs[n - 1]? = some v) : atI xs (-1) = some v := by
  unfold atI ixN
  rw [if_neg (by decide), if_pos (by omega)]
  show xs[((-1 : Int) + xs.length).toNat]? = _
  rw [show ((-1 : Int) + xs.length).toNat = n - 1 by omega]
  exact h
theorem dpAll_app {K : PySem.W.Frag} {H : Hp} : ∀ {vs us : List V} {ds es : List PyData}, DpAll K H vs ds → DpAll K H us es → DpAll K H (vs ++ us) (ds ++ es)
  | _, _, _, _, .nil, q => q
  | _, _, _, _, .cons h r, q => .cons h (dpAll_app r q)
theorem lay_app : ∀ {ds es : List PyData}, PyData.canLayAll0 ds = true → PyData.canLayAll0 es = true → PyData.canLayAll0 (ds ++ es) = true
  | [], _, _, h => h
  | d :: ds, es, h1, h2 => by
    simp only [PyData.canLayAll0, Bool.and_eq_true, List.cons_append] at h1 ⊢
    exact ⟨h1.1, lay_app h1.2 h2⟩
theorem depth_app : ∀ {ds es : List PyData} {n : Nat}, PyData.depthAll ds ≤ n → PyData.depthAll es ≤ n → PyData.depthAll (ds ++ es) ≤ n
  | [], _, _, _, h => h
  | d :: ds, es, n, h1, h2 => by
    simp only [PyData.depthAll, List.cons_append] at h1 ⊢
    have := depth_app (ds := ds) (es := es) (n := n) (by omega) h2
    omega
/-- alike data that can be laid -/
def Lay (K : PySem.W.Frag) (H : Hp) (xs : List V) : Prop := ∃ ds, DpAll K H xs ds ∧ PyData.canLayAll0 ds = true ∧ PyData.depthAll ds ≤ 4
theorem Lay.app {K : PySem.W.Frag} {H : Hp} {xs ys : List V} : Lay K H xs → Lay K H ys → Lay K H (xs ++ ys) := fun ⟨a, a1, a2, a3⟩ ⟨b, b1, b2, b3⟩ => ⟨_, dpAll_app a1 b1, lay_app a2 b2, depth_app a3 b3⟩
theorem lay_S {K : PySem.W.Frag} {H : Hp} {ys : List Str} (h : ∀ y ∈ ys, Lo y) : Lay K H (ys.map V.str) := by
  obtain ⟨a, b⟩ := lay_strsT h
  exact ⟨_, dp_mapP V.str PyData.str ys (fun x _ => .str x), a, by omega⟩
theorem lay_R {K : PySem.W.Frag} {H : Hp} {us : List V} {rs : List Rd} (d : RdsAt H us rs) (h : ∀ r ∈ rs, Lo r.one ∧ Lo r.two) : Lay K H us := by
  obtain ⟨a, b⟩ := lay_rdsT h
  exact ⟨_, dp_rdsP (ei_rds d), a, by omega⟩
theorem lay_I {K : PySem.W.Frag} {H : Hp} : ∀ ns : List Nat, Lay K H (ns.map fun n : Nat => V.int (n : Nat))
  | [] => ⟨[], .nil, rfl, by simp [PyData.depthAll]⟩
  | n :: ns => by
    obtain ⟨ds, h1, h2, h3⟩ := lay_I (K := K) (H := H) ns
    exact ⟨.int (n : Nat) :: ds, .cons (.int _) h1, by simp [PyData.canLayAll0, PyData.canLay0, h2], by simp only [PyData.depthAll, PyData.depth]; omega⟩
theorem g_neNil {K : PySem.W.Frag} {H : Hp} {a b : Addr} {xs : List V} {Q : VK} (h : H a = some (.lst xs)) (l : Lay K H xs) (e : H b = some (.lst [])) (q : Q (.bl (!xs.isEmpty)) H) : uEq K true (.ref a) (.ref b) H Q := by
  obtain ⟨ds, d, c, dp⟩ := l
  exact g_emptyL h d c (by omega) e (by simpa using q)
def spCan : Sp := fun vs H Q _ => ∃ (th pl rl sl el : Addr) (S : TSt) (r : GRow), vs = [.ref th, .str (gText r)] ∧ H th = some (.lst [.ref pl, .ref rl, .ref sl, .ref el]) ∧ StAt H pl rl sl el S ∧ Dis pl rl sl el ∧ InvS S ∧ ROk r ∧ (∀ w ∈ wordsG r, Lo w) ∧
  (∀ H' c, c ∈ [pl, rl, sl, el] → Keep [c] H H' → (¬ (S.es = [] ∧ (takeG S r).isSome)) → Q (.bl false) H') ∧ (∀ S' H' c, S.es = [] → takeG S r = some S' → c ∈ [pl, rl, sl, el] → Keep [c] H H' → StAt H' pl rl sl el S' → Q (.bl true) H')
theorem isEmpty_map {α β : Type} (f : α → β) (xs : List α) : (xs.map f).isEmpty = xs.isEmpty := by cases xs <;> rfl
theorem rd_can (K : PySem.W.Frag) : ∀ vs H Q E, spCan vs H Q E → run (t__law_can_stand K (spIsL K) spWayL spRoadL spNumL) (L2.start N__law_can_stand vs) H Q := by
  rintro _ H Q _ ⟨th, pl, rl, sl, el, S, r, rfl, hth, st, dis, inv, ok, lo, no, yes⟩
  obtain ⟨us, hp, hr, dr, hs, he⟩ := id st
  have lus := dr.len
  have i1 := inv.p
  have i2 := inv.r
  have i3 := inv.s
  have i4 := inv.e
  show run (t__law_can_stand K (spIsL K) spWayL spRoadL spNumL) [some (.ref th), some (.str (gText r)), none, none, none, none, none, none] H Q
  unfold t__law_can_stand
  walk_at "sx"
  refine g_unl hth rfl ?_
  walk_at "sx"
  refine ⟨_, _, rfl, _, _, rfl, _, _, rfl, _, _, rfl, rfl, ?_⟩
  walk_at "sx"
  have lr := gText_len ok
  refine ⟨⟨_, rfl⟩, _, _, rfl, rfl, by decide +kernel, len_le (by omega), fun wl H1 n1 k1 e1 => ?_⟩
  rw [splitG_row ok] at e1
  walk_at "sx"
  have hp1 := k1 _ _ nin0 hp
  have hr1 := k1 _ _ nin0 hr
  have hs1 := k1 _ _ nin0 hs
  have he1 := k1 _ _ nin0 he
  have dr1 := dr.keep k1 noTup0
  have wpl : wl ≠ pl := fun z => by rw [z, hp] at n1; cases n1
  have wrl : wl ≠ rl := fun z => by rw [z, hr] at n1; cases n1
  have wsl : wl ≠ sl := fun z => by rw [z, hs] at n1; cases n1
  have wel : wl ≠ el := fun z => by rw [z, he] at n1; cases n1
  refine g_lenL e1 ?_
  rw [List.length_map]
  walk_at "sx"
  cases r with
  | pl y =>
    have loy := lo y (by simp [wordsG])
    refine g_word e1 ⟨true, rfl, ?_⟩
    rw [if_pos rfl]
    refine g_eq rfl ⟨true, rfl, ?_⟩
    rw [if_pos rfl]
    refine ⟨.inl ⟨rfl, _, .inl (.inl hp1)⟩, g_ixL e1 (at_lit 1 rfl rfl) (g_append hp1 (by rw [List.length_map]; exact len_lt (by omega)) fun H2 k2 e2 => ?_)⟩
    have nob : ∀ H', Keep [] H2 H' → ¬ (S.es = [] ∧ (takeG S (.pl y)).isSome) → Q (.bl false) H' := fun H' k z => no H' pl (by simp) ((k1.all.trans k2).trans k.all) z
    have hr2 := k2 _ _ (nin1 dis.a.symm) hr1
    have hs2 := k2 _ _ (nin1 dis.b.symm) hs1
    have he2 := k2 _ _ (nin1 dis.c.symm) he1
    have w2 := k2 _ _ (nin1 wpl) e1
    have dr2 := dr1.keep k2 (noTup1 hp1)
    have hus : us.length ≤ 18 := by omega
    refine g_addL hr2 hs2 (by rw [List.length_map]; exact len_le (by omega)) fun s1 H3 _ k3 e3 => ?_
    refine g_addL e3 (k3 _ _ nin0 he2) (by simp; exact len_le (by omega)) fun s2 H4 _ k4 e4 => ⟨by walk_at "sz", fun z H5 _ k5 e5 => ?_⟩
    have k25 := k3.trans (k4.trans k5)
    have dr5 := dr2.keep k25 noTup0
    refine g_neNil (k5 _ _ nin0 e4) (((lay_R dr5 inv.rl).app (lay_S inv.sl)).app (lay_I S.es)) e5 ⟨_, rfl, ?_⟩
    by_cases em : S.rs = [] ∧ S.ss = [] ∧ S.es = []
    rotate_left
    · rw [if_pos (by
        have : ¬ (us = [] ∧ S.ss = [] ∧ S.es = []) := fun z => em ⟨List.eq_nil_of_length_eq_zero (by rw [← lus, z.1]; rfl), z.2⟩
        cases us with
        | cons _ _ => rfl
        | nil => cases h2 : S.ss with
          | cons _ _ => rfl
          | nil => cases h3 : S.es with
            | cons _ _ => rfl
            | nil => exact absurd ⟨rfl, h2, h3⟩ this)]
      refine nob _ k25 fun z => em ?_
      obtain ⟨z1, z2⟩ := z
      have z3 : (if S.rs = [] ∧ S.ss = [] ∧ S.ps.length ≠ 10 ∧ nameV (.str y) = true ∧ y ∉ S.ps then some { S with ps := S.ps ++ [y] } else none).isSome = true := z2
      split at z3
      · rename_i h; exact ⟨h.1, h.2.1, z1⟩
      · cases z3
    obtain ⟨er, es, ee⟩ := em
    have eus : us = [] := List.eq_nil_of_length_eq_zero (by rw [lus, er]; rfl)
    rw [if_neg (by rw [eus, es, ee]; simp)]
    refine g_ixL (k25 _ _ nin0 w2) (at_lit 1 rfl rfl) (g_slL (lst_sq (k25 _ _ nin0 e2)) fun cl' H6 _ k6 e6 => ?_)
    rw [cut_butLast (by rw [List.length_map]; omega)] at e6
    refine g_inLS e6 ⟨_, rfl, ?_⟩
    by_cases ym : y ∈ S.ps
    · rw [if_pos (decide_eq_true ym)]
      refine nob _ (k25.trans k6) fun z => ?_
      have z3 : (if S.rs = [] ∧ S.ss = [] ∧ S.ps.length ≠ 10 ∧ nameV (.str y) = true ∧ y ∉ S.ps then some { S with ps := S.ps ++ [y] } else none).isSome = true := z.2
      rw [if_neg (fun h => h.2.2.2.2 ym)] at z3
      cases z3
    rw [if_neg (by rw [decide_eq_false ym]; decide)]
    unfold t__law_can_stand_r1
    walk_at "sx"
    have k26 := k25.trans k6
    refine g_ixL (k26 _ _ nin0 w2) (at_lit 1 rfl rfl) ⟨.str y, rfl, .str y, fun z e => by injection e with e; rw [← e]; have := ok.2; exact ⟨by omega, loy⟩, fun H7 k7 => ⟨_, rfl, ?_⟩⟩
    cases hn : nameV (.str y) with
    | false =>
      rw [if_neg (by decide)]
      refine nob _ (k26.trans k7) fun z => ?_
      have z3 : (if S.rs = [] ∧ S.ss = [] ∧ S.ps.length ≠ 10 ∧ nameV (.str y) = true ∧ y ∉ S.ps then some { S with ps := S.ps ++ [y] } else none).isSome = true := z.2
      rw [if_neg (fun h => by rw [hn] at h; exact absurd h.2.2.2.1 (by decide))] at z3
      cases z3
    | true =>
      rw [if_pos rfl]
      have e7 := (k26.trans k7) _ _ nin0 e2
      refine g_lenL e7 (e_rI0.mpr ?_)
      rw [List.length_append, List.length_map]
      by_cases h10 : S.ps.length = 10
      · rw [decide_eq_false (show ¬ ((S.ps.length + [V.str y].length : Nat) : Int) < 11 by simp; omega)]
        refine nob _ (k26.trans k7) fun z => ?_
        have z3 : (if S.rs = [] ∧ S.ss = [] ∧ S.ps.length ≠ 10 ∧ nameV (.str y) = true ∧ y ∉ S.ps then some { S with ps := S.ps ++ [y] } else none).isSome = true := z.2
        rw [if_neg (fun h => h.2.2.1 h10)] at z3
        cases z3
      · rw [decide_eq_true (show ((S.ps.length + [V.str y].length : Nat) : Int) < 11 by simp; omega)]
        have k27 := k26.trans k7
        have kAll : Keep [pl] H H7 := (k1.all.trans k2).trans k27.all
        refine yes { S with ps := S.ps ++ [y] } H7 pl ee (if_pos ⟨er, es, h10, hn, ym⟩) (by simp) kAll ⟨us, ?_, k27 _ _ nin0 hr2, dr2.keep k27 noTup0, k27 _ _ nin0 hs2, k27 _ _ nin0 he2⟩
        rw [e7]
        simp
  | rd a b m n =>
    have loa := lo a (by simp [wordsG])
    have lob := lo b (by simp [wordsG])
    have okr := ok
    obtain ⟨oa, ob, om, on⟩ := okr
    refine g_word e1 ⟨false, rfl, ?_⟩
    rw [if_neg (by decide)]
    unfold t__law_can_stand_r7
    walk_at "sx"
    refine g_word e1 ⟨true, rfl, ?_⟩
    rw [if_pos rfl]
    refine g_eq rfl ⟨true, rfl, ?_⟩
    rw [if_pos rfl]
    refine ⟨.inl ⟨rfl, _, .inl (.inl hr1)⟩, g_ixL e1 (at_lit 1 rfl rfl) (g_ixL e1 (at_lit 2 rfl rfl) (g_ixL e1 (at_lit 3 rfl rfl) ⟨m, rfl, om, fun H2 k2 => g_ixL (k2 _ _ nin0 e1) (at_lit 4 rfl rfl) ⟨n, rfl, on, fun H3 k3 => ⟨by walk_at "sz", fun tp H4 n4 k4 t4 => ?_⟩⟩⟩))⟩
    have k14 := k2.trans (k3.trans k4)
    have hr4 := k14 _ _ nin0 hr1
    refine g_append hr4 (by exact len_lt (by omega)) fun H5 k5 e5 => ?_
    have nob : ∀ H', Keep [] H5 H' → ¬ (S.es = [] ∧ (takeG S (.rd a b m n)).isSome) → Q (.bl false) H' := fun H' k z => no H' rl (by simp) (((k1.trans k14).all.trans k5).trans k.all) z
    have hs4 := k14 _ _ nin0 hs1
    have hs5 := k5 _ _ (nin1 dis.d.symm) hs4
    have he5 := k5 _ _ (nin1 dis.e.symm) (k14 _ _ nin0 he1)
    have hp5 := k5 _ _ (nin1 dis.a) (k14 _ _ nin0 hp1)
    have nt5 : NoTup [rl] H4 := noTup1 hr4
    have t5 : RdAt H5 tp (roadL a b m n) := Tup.keep t4 k5 (nt5 _ _ t4)
    have dr5 := (dr1.keep k14 noTup0).keep k5 nt5
    refine g_addL hs5 he5 (by rw [List.length_map, List.length_map]; exact len_le (by omega)) fun s1 H6 _ k6 e6 => ⟨by walk_at "sz", fun z H7 _ k7 e7 => ?_⟩
    refine g_neNil (k7 _ _ nin0 e6) ((lay_S inv.sl).app (lay_I S.es)) e7 ⟨_, rfl, ?_⟩
    have k57 := k6.trans k7
    by_cases em : S.ss = [] ∧ S.es = []
    rotate_left
    · rw [if_pos (by
        cases h2 : S.ss with
        | cons _ _ => rfl
        | nil => cases h3 : S.es with
          | cons _ _ => rfl
          | nil => exact absurd ⟨h2, h3⟩ em)]
      refine nob _ k57 fun z => em ?_
      obtain ⟨z1, z2⟩ := z
      have z3 : (if S.ss = [] ∧ S.rs.length ≠ 18 ∧ roadB S.ps (roadOf a b m n) = true then some { S with rs := S.rs ++ [roadOf a b m n] } else none).isSome = true := z2
      split at z3
      · rename_i h; exact ⟨h.1, z1⟩
      · cases z3
    obtain ⟨es, ee⟩ := em
    rw [if_neg (by rw [es, ee]; simp)]
    refine g_lenL (k57 _ _ nin0 e5) (e_rI0.mpr ⟨_, rfl, ?_⟩)
    rw [List.length_append, lus]
    by_cases h18 : S.rs.length = 18
    · rw [if_pos (decide_eq_true (show (18 : Int) < ((S.rs.length + [V.ref tp].length : Nat) : Int) by simp; omega))]
      refine nob _ k57 fun z => ?_
      have z3 : (if S.ss = [] ∧ S.rs.length ≠ 18 ∧ roadB S.ps (roadOf a b m n) = true then some { S with rs := S.rs ++ [roadOf a b m n] } else none).isSome = true := z.2
      rw [if_neg (fun h => h.2.1 h18)] at z3
      cases z3
    rw [if_neg (by rw [decide_eq_false (show ¬ (18 : Int) < ((S.rs.length + [V.ref tp].length : Nat) : Int) by simp; omega)]; decide)]
    unfold t__law_can_stand_r2
    walk_at "sx"
    refine g_ixL (k57 _ _ nin0 e5) (at_last (v := V.ref tp) (n := us.length + 1) (by simp) (by omega) (by rw [Nat.add_sub_cancel, List.getElem?_append_right (by omega)]; simp)) ?_
    have la := oa.2
    have lb := ob.2
    refine ⟨pl, tp, S.ps, roadL a b m n, rfl, .inr (k57 _ _ nin0 hp5), Tup.keep t5 k57 nin0, ⟨by show a.length ≤ 1000; omega, loa⟩, ⟨by show b.length ≤ 1000; omega, lob⟩, fun H8 k8 => ?_⟩
    obtain ⟨rs1, rs2⟩ := road_same inv.pn a b m n
    rw [rs1]
    cases hb : roadB S.ps (roadOf a b m n) with
    | false =>
      refine nob _ (k57.trans k8) fun z => ?_
      have z3 : (if S.ss = [] ∧ S.rs.length ≠ 18 ∧ roadB S.ps (roadOf a b m n) = true then some { S with rs := S.rs ++ [roadOf a b m n] } else none).isSome = true := z.2
      rw [if_neg (fun h => by rw [hb] at h; exact absurd h.2.2 (by decide))] at z3
      cases z3
    | true =>
      have er := rs2 hb
      rw [er] at t5
      have k58 := k57.trans k8
      have kAll : Keep [rl] H H8 := ((k1.trans k14).all.trans k5).trans k58.all
      exact yes { S with rs := S.rs ++ [roadOf a b m n] } H8 rl ee (if_pos ⟨es, h18, hb⟩) (by simp) kAll ⟨us ++ [V.ref tp], k58 _ _ nin0 hp5, k58 _ _ nin0 e5, (dr5.snoc t5).keep k58 noTup0, k58 _ _ nin0 hs5, k58 _ _ nin0 he5⟩
  | st y =>
    have loy := lo y (by simp [wordsG])
    refine g_word e1 ⟨false, rfl, ?_⟩
    rw [if_neg (by decide)]
    unfold t__law_can_stand_r7
    walk_at "sx"
    refine g_word e1 ⟨false, rfl, ?_⟩
    rw [if_neg (by decide)]
    unfold t__law_can_stand_r6
    walk_at "sx"
    refine g_word e1 ⟨true, rfl, ?_⟩
    rw [if_pos rfl]
    refine g_eq rfl ⟨true, rfl, ?_⟩
    rw [if_pos rfl]
    refine ⟨.inl ⟨rfl, _, .inl (.inl hs1)⟩, g_ixL e1 (at_lit 1 rfl rfl) (g_append hs1 (by rw [List.length_map]; exact len_lt (by omega)) fun H2 k2 e2 => ?_)⟩
    have nob : ∀ H', Keep [] H2 H' → ¬ (S.es = [] ∧ (takeG S (.st y)).isSome) → Q (.bl false) H' := fun H' k z => no H' sl (by simp) ((k1.all.trans k2).trans k.all) z
    have hp2 := k2 _ _ (nin1 dis.b) hp1
    have hr2 := k2 _ _ (nin1 dis.d) hr1
    have he2 := k2 _ _ (nin1 dis.f.symm) he1
    have w2 := k2 _ _ (nin1 wsl) e1
    have dr2 := dr1.keep k2 (noTup1 hs1)
    refine ⟨by walk_at "sz", fun z H3 _ k3 e3 => ?_⟩
    refine g_neNil (k3 _ _ nin0 he2) (lay_I S.es) e3 ⟨_, rfl, ?_⟩
    by_cases ee : S.es = []
    rotate_left
    · rw [if_pos (by cases h3 : S.es with | cons _ _ => rfl | nil => exact absurd h3 ee)]
      exact nob _ k3 fun z => ee z.1
    rw [if_neg (by rw [ee]; simp)]
    refine g_ixL (k3 _ _ nin0 w2) (at_lit 1 rfl rfl) (g_slL (lst_sq (k3 _ _ nin0 e2)) fun cl' H4 _ k4 e4 => ?_)
    rw [cut_butLast (by rw [List.length_map]; omega)] at e4
    refine g_inLS e4 ⟨_, rfl, ?_⟩
    have bad : ¬ (S.ss.length ≠ 5 ∧ y ∈ S.ps ∧ y ∉ S.ss) → Q (.bl false) H4 := fun hb => nob H4 (k3.trans k4) fun z => by
      have z3 : (if S.ss.length ≠ 5 ∧ y ∈ S.ps ∧ y ∉ S.ss then some { S with ss := S.ss ++ [y] } else none).isSome = true := z.2
      rw [if_neg hb] at z3
      cases z3
    by_cases ym : y ∈ S.ss
    · rw [if_pos (decide_eq_true ym)]
      exact bad (fun h => h.2.2 ym)
    rw [if_neg (by rw [decide_eq_false ym]; decide)]
    have k24 := k3.trans k4
    refine g_lenL (k24 _ _ nin0 e2) (e_rI0.mpr ⟨_, rfl, ?_⟩)
    rw [List.length_append, List.length_map]
    by_cases h5 : S.ss.length = 5
    · rw [if_pos (decide_eq_true (show (5 : Int) < ((S.ss.length + [V.str y].length : Nat) : Int) by simp; omega))]
      exact bad (fun h => h.1 h5)
    rw [if_neg (by rw [decide_eq_false (show ¬ (5 : Int) < ((S.ss.length + [V.str y].length : Nat) : Int) by simp; omega)]; decide)]
    unfold t__law_can_stand_r3
    walk_at "sx"
    refine g_ixL (k24 _ _ nin0 w2) (at_lit 1 rfl rfl) (g_inLS (k24 _ _ nin0 hp2) ?_)
    by_cases yp : y ∈ S.ps
    · rw [decide_eq_true yp]
      have kAll : Keep [sl] H H4 := (k1.all.trans k2).trans k24.all
      refine yes { S with ss := S.ss ++ [y] } H4 sl ee (if_pos ⟨h5, yp, ym⟩) (by simp) kAll ⟨us, k24 _ _ nin0 hp2, k24 _ _ nin0 hr2, dr2.keep k24 noTup0, ?_, k24 _ _ nin0 he2⟩
      rw [k24 _ _ nin0 e2]
      simp
    · rw [decide_eq_false yp]
      exact bad (fun h => yp h.2.1)
  | re h =>
    refine g_word e1 ⟨false, rfl, ?_⟩
    rw [if_neg (by decide)]
    unfold t__law_can_stand_r7
    walk_at "sx"
    refine g_word e1 ⟨false, rfl, ?_⟩
    rw [if_neg (by decide)]
    unfold t__law_can_stand_r6
    walk_at "sx"
    refine g_word e1 ⟨false, rfl, ?_⟩
    rw [if_neg (by decide)]
    unfold t__law_can_stand_r5
    walk_at "sx"
    refine g_word e1 ⟨true, rfl, ?_⟩
    rw [if_pos rfl]
    refine g_eq rfl ⟨true, rfl, ?_⟩
    rw [if_pos rfl]
    refine ⟨.inl ⟨rfl, _, .inl (.inl he1)⟩, g_ixL e1 (at_lit 1 rfl rfl) ⟨.num h, rfl, ok, fun H2 k2 => ?_⟩⟩
    have he2 := k2 _ _ nin0 he1
    refine g_append he2 (by rw [List.length_map]; exact len_lt (by omega)) fun H3 k3 e3 => ?_
    walk_at "sx"
    have nob : ∀ H', Keep [] H3 H' → ¬ (S.es = [] ∧ (takeG S (.re h)).isSome) → Q (.bl false) H' := fun H' k z => no H' el (by simp) (((k1.trans k2).all.trans k3).trans k.all) z
    have hp3 := k3 _ _ (nin1 dis.c) (k2 _ _ nin0 hp1)
    have hr3 := k3 _ _ (nin1 dis.e) (k2 _ _ nin0 hr1)
    have hs3 := k3 _ _ (nin1 dis.f) (k2 _ _ nin0 hs1)
    have dr3 := (dr1.keep k2 noTup0).keep k3 (noTup1 he2)
    refine ⟨by walk_at "sz", fun z H4 _ k4 e4 => ?_⟩
    have bad : ¬ (S.es = [] ∧ S.ss ≠ [] ∧ h ≤ 120) → Q (.bl false) H4 := fun hb => nob H4 k4 fun z => by
      have z3 : (if S.ss ≠ [] ∧ h ≤ 120 then some { S with es := S.es ++ [h] } else none).isSome = true := z.2
      rw [if_neg (fun q => hb ⟨z.1, q⟩)] at z3
      cases z3
    refine g_neNil (k4 _ _ nin0 hs3) (lay_S inv.sl) e4 ⟨_, rfl, ?_⟩
    by_cases ess : S.ss = []
    · rw [if_neg (by rw [ess]; simp)]
      have e0 : (!(S.ss.map V.str).isEmpty) = false := by rw [ess]; rfl
      rw [e0]
      exact bad (fun q => q.2.1 ess)
    rw [if_pos (by cases h3 : S.ss with | cons _ _ => rfl | nil => exact absurd h3 ess)]
    have e3' := k4 _ _ nin0 e3
    refine g_lenL e3' (g_eq rfl ⟨_, rfl, ?_⟩)
    rw [List.length_append, List.length_map]
    by_cases ee : S.es = []
    rotate_left
    · have ln : S.es.length ≠ 0 := fun z => ee (List.eq_nil_of_length_eq_zero z)
      rw [if_neg (by rw [decide_eq_false fun z => by injection z with z; simp at z; omega]; decide), decide_eq_false fun z => by injection z with z; simp at z; omega]
      exact bad (fun q => ee q.1)
    rw [if_pos (decide_eq_true (by rw [ee]; rfl))]
    have e3'' : H4 el = some (.lst [V.int (h : Nat)]) := by rw [e3', ee]; rfl
    refine g_ixL e3'' (at_lit 0 rfl rfl) (e_rI0.mpr ⟨_, rfl, ?_⟩)
    rw [if_pos (decide_eq_true (show (0 : Int) ≤ (h : Nat) by omega))]
    refine e_rI0.mpr ?_
    by_cases hh : h ≤ 120
    · rw [decide_eq_true (show ((h : Nat) : Int) ≤ 120 by omega)]
      have kAll : Keep [el] H H4 := ((k1.trans k2).all.trans k3).trans k4.all
      refine yes { S with es := S.es ++ [h] } H4 el ee (if_pos ⟨ess, hh⟩) (by simp) kAll ⟨us, k4 _ _ nin0 hp3, k4 _ _ nin0 hr3, dr3.keep k4 noTup0, k4 _ _ nin0 hs3, ?_⟩
      rw [e3'', ee]
      rfl
    · rw [decide_eq_false (show ¬ ((h : Nat) : Int) ≤ 120 by omega)]
      exact bad (fun q => hh q.2.2)


/-! ### a text is read, by the law -/
theorem inv_step {S S' : TSt} {r : GRow} (inv : InvS S) (lo : ∀ w ∈ wordsG r, Lo w) (ee : S.es = []) (e : takeG S r = some S') : InvS S' := by
  have i1 := inv.p
  have i2 := inv.r
  have i3 := inv.s
  cases r with
  | pl y =>
    simp only [takeG] at e
    split at e
    · rename_i h
      have e' := Option.some.inj e; subst e'
      obtain ⟨_, _, h3, h4, _⟩ := h
      refine ⟨by simp; omega, i2, i3, inv.e, fun z hz => ?_, fun z hz => ?_, inv.rl, inv.sl⟩
      · rcases List.mem_append.mp hz with hz | hz
        · exact inv.pn z hz
        · rw [List.mem_singleton.mp hz]; exact h4
      · rcases List.mem_append.mp hz with hz | hz
        · exact inv.pl z hz
        · rw [List.mem_singleton.mp hz]; exact lo y (by simp [wordsG])
    · cases e
  | rd a b m n =>
    simp only [takeG] at e
    split at e
    · rename_i h
      have e' := Option.some.inj e; subst e'
      refine ⟨i1, by simp; omega, i3, inv.e, inv.pn, inv.pl, fun z hz => ?_, inv.sl⟩
      rcases List.mem_append.mp hz with hz | hz
      · exact inv.rl z hz
      · rw [List.mem_singleton.mp hz]
        exact ⟨lo a (by simp [wordsG]), lo b (by simp [wordsG])⟩
    · cases e
  | st y =>
    simp only [takeG] at e
    split at e
    · rename_i h
      have e' := Option.some.inj e; subst e'
      refine ⟨i1, i2, by simp; omega, inv.e, inv.pn, inv.pl, inv.rl, fun z hz => ?_⟩
      rcases List.mem_append.mp hz with hz | hz
      · exact inv.sl z hz
      · rw [List.mem_singleton.mp hz]; exact lo y (by simp [wordsG])
    · cases e
  | re h =>
    simp only [takeG] at e
    split at e
    · have e' := Option.some.inj e; subst e'
      exact ⟨i1, i2, i3, by simp [ee], inv.pn, inv.pl, inv.rl, inv.sl⟩
    · cases e
def spRead : Sp := fun vs H Q _ => ∃ rows : List GRow, vs = [.str (gsText rows)] ∧ GsOk rows ∧ (∀ r ∈ rows, ∀ w ∈ wordsG r, Lo w) ∧
  (∀ T, resG rows = .inr T → ∀ a t H', Keep [] H H' → H' a = some (.lst [.str "town", .ref t]) → TnAt H' t T → Q (.ref a) H') ∧ (∀ i, resG rows = .inl i → ∀ a H', Keep [] H H' → H' a = some (.lst [.str "row", .int (i : Nat)]) → Q (.ref a) H')
theorem rd_read (K : PySem.W.Frag) : ∀ vs H Q E, spRead vs H Q E → run (t__law_read K spCan) (L2.start N__law_read vs) H Q := by
  rintro _ H Q _ ⟨rows, rfl, ok, lo, good, bad⟩
  show run (t__law_read K spCan) [some (.str (gsText rows)), none, none, none, none, none, none, none, none] H Q
  unfold t__law_read
  walk_at "sx"
  refine g_isStr (.str _) ⟨true, rfl, ?_⟩
  rw [if_neg (by decide)]
  unfold t__law_read_r3
  walk_at "sx"
  refine ⟨by walk_at "sz", fun pl H1 n1 k1 e1 => ⟨by walk_at "sz", fun rl H2 n2 k2 e2 => ⟨by walk_at "sz", fun sl H3 n3 k3 e3 => ⟨by walk_at "sz", fun el H4 n4 k4 e4 => ⟨by walk_at "sz", fun th H5 n5 k5 e5 => ?_⟩⟩⟩⟩⟩
  walk_at "sx"
  refine ⟨⟨_, rfl⟩, _, _, rfl, rfl, by decide +kernel, len_le (by have := gsText_len ok; omega), fun wl H6 n6 k6 e6 => ?_⟩
  rw [splitG ok] at e6
  walk_at "sx"
  have q56 := k5.trans k6
  have k06 : Keep [] H H6 := k1.trans (k2.trans (k3.trans (k4.trans q56)))
  have p6 : H6 pl = some (.lst []) := (k2.trans (k3.trans (k4.trans q56))) _ _ nin0 e1
  have r6 : H6 rl = some (.lst []) := (k3.trans (k4.trans q56)) _ _ nin0 e2
  have s6 : H6 sl = some (.lst []) := (k4.trans q56) _ _ nin0 e3
  have l6 : H6 el = some (.lst []) := q56 _ _ nin0 e4
  have t6 := k6 _ _ nin0 e5
  have dis : Dis pl rl sl el := ⟨ne_of_none e1 n2, ne_of_none (k2 _ _ nin0 e1) n3, ne_of_none ((k2.trans k3) _ _ nin0 e1) n4, ne_of_none e2 n3, ne_of_none (k3 _ _ nin0 e2) n4, ne_of_none e3 n4⟩
  have hc0 : ∀ c ∈ [pl, rl, sl, el], H c = none ∧ c ≠ wl ∧ c ≠ th := by
    intro c hc
    simp only [List.mem_cons, List.not_mem_nil, or_false] at hc
    rcases hc with rfl | rfl | rfl | rfl
    · exact ⟨n1, ne_of_none ((k2.trans (k3.trans (k4.trans k5))) _ _ nin0 e1) n6, ne_of_none ((k2.trans (k3.trans k4)) _ _ nin0 e1) n5⟩
    · exact ⟨k1.free nin0 n2, ne_of_none ((k3.trans (k4.trans k5)) _ _ nin0 e2) n6, ne_of_none ((k3.trans k4) _ _ nin0 e2) n5⟩
    · exact ⟨(k1.trans k2).free nin0 n3, ne_of_none ((k4.trans k5) _ _ nin0 e3) n6, ne_of_none (k4 _ _ nin0 e3) n5⟩
    · exact ⟨(k1.trans (k2.trans k3)).free nin0 n4, ne_of_none (k5 _ _ nin0 e4) n6, ne_of_none e4 n5⟩
  have inv0 : InvS S0 := ⟨by simp [S0], by simp [S0], by simp [S0], by simp [S0], fun _ h => (List.not_mem_nil h).elim, fun _ h => (List.not_mem_nil h).elim, fun _ h => (List.not_mem_nil h).elim, fun _ h => (List.not_mem_nil h).elim⟩
  refine e_forEl.mpr ?_
  walk_at "sx"
  refine g_FEl (fun i σ H' => ∃ (y3 y4 y5 y6 y7 y8 : Option V) (S : TSt), σ = [some (.str (gsText rows)), some (.ref th), some (.ref wl), y3, y4, y5, y6, y7, y8] ∧ Keep [] H H' ∧ H' wl = some (.lst ((rows.map gText).map V.str)) ∧ H' th = some (.lst [.ref pl, .ref rl, .ref sl, .ref el]) ∧
      StAt H' pl rl sl el S ∧ foldG 0 S0 rows = foldG i S (rows.drop i) ∧ InvS S)
    e6 ⟨_, _, _, _, _, _, S0, rfl, k06, e6, t6, ⟨[], p6, r6, .nil, s6, l6⟩, rfl, inv0⟩ (fun i σ H' _ ⟨_, _, _, _, _, _, _, _, _, h, _⟩ => h) ?_ ?_
  · rintro i x σ H7 tp H8 hx ⟨y3, y4, y5, y6, y7, y8, S, rfl, kH, ew, et, st, fo, inv⟩ ntp ktp etp
    rw [List.map_map, List.getElem?_map] at hx
    obtain ⟨r, hr, rfl⟩ := Option.map_eq_some_iff.mp hx
    have hm := List.mem_of_getElem? hr
    have hi := (List.getElem?_eq_some_iff.mp hr).1
    have dr1 : rows.drop i = r :: rows.drop (i + 1) := by
      rw [List.drop_eq_getElem_cons hi]
      congr 1
      exact (List.getElem?_eq_some_iff.mp hr).2
    rw [dr1] at fo
    refine g_pair etp rfl ?_
    walk_at "sx"
    refine ⟨_, _, rfl, _, _, rfl, rfl, ?_⟩
    unfold t__law_read_b1
    walk_at "sx"
    obtain ⟨us, g1, g2, g3, g4, g5⟩ := st
    have st8 : StAt H8 pl rl sl el S := ⟨us, ktp _ _ nin0 g1, ktp _ _ nin0 g2, g3.keep ktp noTup0, ktp _ _ nin0 g4, ktp _ _ nin0 g5⟩
    have kH8 := kH.trans ktp
    refine ⟨th, pl, rl, sl, el, S, r, rfl, ktp _ _ nin0 et, st8, dis, inv, ok.ok r hm, lo r hm, fun H9 c hc kA hno => ⟨false, rfl, ?_⟩, fun S' H9 c ee es' hc kA st' => ⟨true, rfl, ?_⟩⟩
    · rw [if_pos (by rfl)]
      obtain ⟨hc1, hc2, hc3⟩ := hc0 c hc
      have er : resG rows = .inl i := by
        unfold resG
        rw [fo]
        unfold foldG
        by_cases ee : S.es = []
        · rw [if_neg (fun z => z ee)]
          cases et : takeG S r with
          | none => rfl
          | some S' => exact absurd ⟨ee, by rw [et]; rfl⟩ hno
        · rw [if_pos ee]
      refine ⟨by walk_at "sz", fun a HA nA kB eB => bad i er a HA ((kH8.past kA hc1).trans kB) eB⟩
    · rw [if_neg (by decide)]
      obtain ⟨hc1, hc2, hc3⟩ := hc0 c hc
      have fo2 : foldG 0 S0 rows = foldG (i + 1) S' (rows.drop (i + 1)) := by
        rw [fo]
        conv => lhs; unfold foldG
        rw [if_neg (fun z => z ee), es']
      exact ⟨_, _, _, _, _, _, S', rfl, kH8.past kA hc1, kA _ _ (nin1 hc2.symm) (ktp _ _ nin0 ew), kA _ _ (nin1 hc3.symm) (ktp _ _ nin0 et), st', fo2, inv_step inv (lo r hm) ee es'⟩
  · rintro σ H7 ⟨y3, y4, y5, y6, y7, y8, S, rfl, kH, ew, et, ⟨us, ep, er, dr, es, ee⟩, fo, inv⟩
    have full : rows.drop ((rows.map gText).map V.str).length = [] := by
      rw [List.length_map, List.length_map, List.drop_length]
    rw [full] at fo
    have fo' : foldG 0 S0 rows = .inr S := by rw [fo]; rfl
    unfold t__law_read_r2
    walk_at "sx"
    refine g_unl et rfl ?_
    walk_at "sx"
    refine ⟨_, _, rfl, _, _, rfl, _, _, rfl, _, _, rfl, rfl, ?_⟩
    walk_at "sx"
    refine ⟨by walk_at "sz", fun z H8 n8 k8 e8 => ?_⟩
    obtain ⟨ds, dI, cI, pI⟩ := lay_I (K := K) (H := H8) S.es
    refine g_emptyL (k8 _ _ nin0 ee) dI cI (by omega) e8 ⟨_, rfl, ?_⟩
    have kH8 := kH.trans k8
    cases hes : S.es with
    | nil =>
      rw [if_pos (by simp)]
      have er' : resG rows = .inl rows.length := by
        unfold resG
        rw [fo']
        show (match S.es with | [] => _ | h :: _ => _) = _
        rw [hes]
      refine g_lenL (k8 _ _ nin0 ew) ?_
      rw [List.length_map, List.length_map]
      exact ⟨by walk_at "sz", fun a HA nA kB eB => bad _ er' a HA (kH8.trans kB) eB⟩
    | cons h rest =>
      rw [if_neg (by simp)]
      have er' : resG rows = .inr ⟨S.ps, S.rs, S.ss, (h : Nat)⟩ := by
        unfold resG
        rw [fo']
        show (match S.es with | [] => _ | h :: _ => _) = _
        rw [hes]
      unfold t__law_read_r1
      walk_at "sx"
      rw [hes] at ee
      refine g_tupleL (k8 _ _ nin0 ep) fun t1 H9 m1 j1 u1 => g_tupleL ((k8.trans j1) _ _ nin0 er) fun t2 HA m2 j2 u2 => g_tupleL ((k8.trans (j1.trans j2)) _ _ nin0 es) fun t3 HB m3 j3 u3 => ?_
      have j8B := j1.trans (j2.trans j3)
      have j7B := k8.trans j8B
      refine g_ixL (j7B _ _ nin0 ee) (at_lit 0 rfl rfl) ⟨by walk_at "sz", fun tp HC nC kC tC => ⟨by walk_at "sz", fun a HD nD kD eD => ?_⟩⟩
      have j7C := j7B.trans kC
      exact good _ er' a tp HD (kH.trans (j7C.trans kD)) eD ⟨t1, t2, t3, us, tC.keep kD nin0, (u1.keep (j2.trans (j3.trans kC)) nin0).keep kD nin0, (u2.keep (j3.trans kC) nin0).keep kD nin0, dr.keep (j7C.trans kD) noTup0, (u3.keep kC nin0).keep kD nin0⟩


/-! ### told: the town, or the row of the refusal -/
structure NoTF (K : PySem.W.Frag) (CW CN : Addr) (as bs : List Addr) : Prop where
  ea : ExA K CN
  k1 : PySem.W.kitOne K (.ref CN) (.ref CN) = some true
  k2 : PySem.W.kitOne K (.ref CN) (.ref CW) = some true
  k3 : PySem.W.kitOne K (.ref CN) (.type "ValueError") = some true
  k4 : PySem.W.kitAny K (.ref CN) (as.map Value.ref) = some false
  k5 : PySem.W.kitAny K (.ref CN) (bs.map Value.ref) = some false
  ex : PySem.W.exmOne K (.ref CN) (.ref CN) = some true
theorem g_isTup {K : PySem.W.Frag} {H : Hp} {a C t : Addr} {cs : List Addr} {fs : List (Str × V)} {b : Bool} {Q : VK} (h : ExcAt K H a C fs) (u : Tup H t (cs.map V.ref)) (k : PySem.W.kitAny K (.ref C) (cs.map Value.ref) = some b) (q : Q (.bl b) H) : rIsV K [.ref a, .ref t] H Q :=
  ⟨a, C, fs, .ref t, rfl, h, .inr ⟨t, cs, b, rfl, u, k, q⟩⟩
def spMarks9 (K : PySem.W.Frag) (CN : Addr) : Sp := fun vs H Q _ => ∃ (a : Addr) (fs : List (Str × V)), vs = [.ref a] ∧ ExcAt K H a CN fs ∧ ∀ p H', Keep [] H H' → H' p = some (.lst [.bl true, .bl true, .bl true, .bl false, .bl false]) → Q (.ref p) H'
theorem rd_marks9 (K : PySem.W.Frag) {CW CN l1 l2 l3 l4 l5 m1 m2 m3 m4 m5 : Addr} (F : NoTF K CW CN [l1, l2, l3, l4, l5] [m1, m2, m3, m4, m5]) : ∀ vs H Q E, spMarks9 K CN vs H Q E →
    run (t__law_marks K CW CN l5 l4 l3 l2 l1 m5 m4 m3 m2 m1) (L2.start N__law_marks vs) H Q := by
  rintro _ H Q _ ⟨a, fs, rfl, h, q⟩
  show run (t__law_marks K CW CN l5 l4 l3 l2 l1 m5 m4 m3 m2 m1) [some (.ref a), none] H Q
  unfold t__law_marks
  walk_at "sx"
  refine g_isV h F.k1 (g_isV h F.k2 ⟨by walk_at "sz", fun p H1 n1 k1 e1 => ?_⟩)
  walk_at "sx"
  have h1 : ExcAt K H1 a CN fs := EAt.ea (EAt.keep h.2 k1) h.1
  refine ⟨.inl ⟨rfl, _, .inl (.inl e1)⟩, g_isVT h1 F.k3 (g_append e1 (by walk_at "sz") fun H2 k2 e2 => ?_)⟩
  have k02 : Keep [] H H2 := k1.past k2 n1
  have h2 : ExcAt K H2 a CN fs := EAt.ea (EAt.keep h.2 k02) h.1
  walk_at "sx"
  refine ⟨.inl ⟨rfl, _, .inl (.inl e2)⟩, ⟨by walk_at "sz", fun t H3 n3 k3 t3 => ?_⟩⟩
  have h3 : ExcAt K H3 a CN fs := EAt.ea (EAt.keep h2.2 k3) h.1
  refine g_isTup (cs := [l1, l2, l3, l4, l5]) h3 t3 F.k4 (g_append (k3 _ _ nin0 e2) (by walk_at "sz") fun H4 k4 e4 => ?_)
  have k04 : Keep [] H H4 := (k02.trans k3).past k4 n1
  have h4 : ExcAt K H4 a CN fs := EAt.ea (EAt.keep h.2 k04) h.1
  walk_at "sx"
  refine ⟨by walk_at "sz", fun t5 H5 n5 k5 u5 => ?_⟩
  have h5 : ExcAt K H5 a CN fs := EAt.ea (EAt.keep h4.2 k5) h.1
  refine g_isTup (cs := [m1, m2, m3, m4, m5]) h5 u5 F.k5 ⟨by walk_at "sz", fun p6 H6 n6 k6 e6 => ?_⟩
  refine g_addL ((k5.trans k6) _ _ nin0 e4) e6 (by walk_at "sz") fun p7 H7 n7 k7 e7 => ?_
  exact q p7 H7 (k04.trans (k5.trans (k6.trans k7))) e7
theorem lay_B {K : PySem.W.Frag} {H : Hp} (bs : List Bool) : DpAll K H (bs.map V.bl) (bs.map PyData.bool) ∧ PyData.canLayAll0 (bs.map PyData.bool) = true ∧ PyData.depthAll (bs.map PyData.bool) ≤ 4 := by
  induction bs with
  | nil => exact ⟨.nil, rfl, by simp [PyData.depthAll]⟩
  | cons b bs ih => exact ⟨.cons (.bl b) ih.1, by simp [PyData.canLayAll0, PyData.canLay0, ih.2.1], by simp only [List.map_cons, PyData.depthAll, PyData.depth]; have := ih.2.2; omega⟩
theorem g_neSame {K : PySem.W.Frag} {H : Hp} {a b : Addr} {bs : List Bool} {Q : VK} (h : H a = some (.lst (bs.map V.bl))) (e : H b = some (.lst (bs.map V.bl))) (q : Q (.bl false) H) : uEq K true (.ref a) (.ref b) H Q := by
  obtain ⟨d, c, l⟩ := lay_B (K := K) (H := H) bs
  refine .inr ⟨_, _, .lst (lst_sq h) d, .lst (lst_sq e) d, ?_, ?_, ?_⟩
  · unfold SeqAt.shaped
    rw [Bool.and_eq_true_iff]
    exact ⟨by simp [PyData.canLay0, c], decide_eq_true (by simp only [PyData.depth]; omega)⟩
  · unfold SeqAt.shaped
    rw [Bool.and_eq_true_iff]
    exact ⟨by simp [PyData.canLay0, c], decide_eq_true (by simp only [PyData.depth]; omega)⟩
  · rw [if_pos rfl, SeqAt.eqv_refl _ (by simp [PyData.canLay0, c])]
    exact q
def spTold9 (L : List Addr) (P1 : Addr) : Sp := fun vs H Q _ => ∃ rows : List GRow, vs = [.str (gsText rows)] ∧ GsOk rows ∧ Tabs L H ∧ P1 ∈ L ∧
  (∀ T, resG rows = .inr T → ∀ a t H', KT L H H' → H' a = some (.lst [.str "town", .ref t]) → TnAt H' t T → Q (.ref a) H') ∧ (∀ i, resG rows = .inl i → ∀ a H', KT L H H' → H' a = some (.lst [.str "row", .int (i : Nat)]) → Q (.ref a) H')
theorem rd_told9 (K : PySem.W.Frag) {CW CN : Addr} {as bs : List Addr} (F : NoTF K CW CN as bs) (nrow : PySem.W.findIn K (.ref CN) "row" = some none) {L : List Addr} {P1 : Addr} : ∀ vs H Q E, spTold9 L P1 vs H Q E → run (t__law_told K (spTownByG CN L P1) (spMarks9 K CN) CN) (L2.start N__law_told vs) H Q := by
  rintro _ H Q _ ⟨rows, rfl, ok, ht, hP, good, bad⟩
  show run (t__law_told K (spTownByG CN L P1) (spMarks9 K CN) CN) [some (.str (gsText rows)), none, none, none] H Q
  unfold t__law_told tTryKp tGoS
  walk_at "sx"
  refine ⟨rows, rfl, ok, ht, hP, fun T e t H' k hT => ?_, fun i e d H' k hd => ?_⟩
  · unfold t__law_told_r3
    walk_at "sx"
    exact ⟨by walk_at "sz", fun a HA nA kA eA => good T e a t HA (k.trans (KT.of0 kA)) eA (hT.keep kA noTup0)⟩
  · refine ⟨true, F.ex, (fun z => nomatch z), fun _ a na => ?_⟩
    walk_at "sx"
    have ne : d ≠ a := fun z => by rw [← z, hd] at na; cases na
    have hx : EAt (upd H' a (ExV (.ref CN) (some d) a)) a CN [("row", .int (i : Nat))] := ⟨some d, upd_same, .inr ⟨d, rfl, by rw [upd_ne ne]; exact hd⟩⟩
    have kk : KT L H (upd H' a (ExV (.ref CN) (some d) a)) := k.trans (KT.of0 (Keep.new na))
    generalize upd H' a (ExV (.ref CN) (some d) a) = HX at hx kk
    unfold t__law_told_r3
    walk_at "sx"
    unfold t__law_told_r2
    walk_at "sx"
    refine ⟨a, _, rfl, hx.ea F.ea, fun p H1 k1 e1 => ⟨by walk_at "sz", fun z H2 n2 k2 e2 => ?_⟩⟩
    refine g_neSame (bs := [true, true, true, false, false]) (k2 _ _ nin0 e1) e2 ⟨false, rfl, ?_⟩
    rw [if_neg (by decide)]
    unfold t__law_told_r1
    walk_at "sx"
    have hx2 := (hx.keep k1).keep k2
    refine g_xfV (hx2.ea F.ea) nrow rfl ⟨by walk_at "sz", fun b H3 n3 k3 e3 => ?_⟩
    exact bad i e b H3 (kk.trans (KT.of0 (k1.trans (k2.trans k3)))) e3


/-! ### rows of the pen -/
def Rk (r : GRow) : Prop := ROk r ∧ ∀ w ∈ wordsG r, Lo w
theorem cl_join2 (a b : Str) : cl (Txt.join " " [a, b]) = cl a ++ ([32] ++ cl b) := by
  rw [TL.join_eq]
  exact (TL.tl_join " " [a, b]).trans rfl
theorem g_pl (y : Str) : "place " ++ y = gText (.pl y) := cl_inj (by
  show cl ("place " ++ y) = cl (Txt.join " " ["place", y])
  rw [cl_app, cl_join2, show cl "place " = cl "place" ++ [32] by decide +kernel, List.append_assoc])
theorem g_st (y : Str) : "stand " ++ y = gText (.st y) := cl_inj (by
  show cl ("stand " ++ y) = cl (Txt.join " " ["stand", y])
  rw [cl_app, cl_join2, show cl "stand " = cl "stand" ++ [32] by decide +kernel, List.append_assoc])
theorem g_re (h : Nat) : "reach " ++ nt h = gText (.re h) := cl_inj (by
  show cl ("reach " ++ nt h) = cl (Txt.join " " ["reach", nt h])
  rw [cl_app, cl_join2, show cl "reach " = cl "reach" ++ [32] by decide +kernel, List.append_assoc])
theorem lo_ofB {z : Str} (h : (sg z).all (fun c => decide (c < 128)) = true) : Lo z := fun c hc => of_decide_eq_true (List.all_eq_true.mp h c hc)
theorem nm_lo {y : Str} (h : NameOk (cl y)) : Lo y := fun c hc => by
  have := h.2.2.1 c hc
  unfold isSg isLt at this
  omega
theorem nm_len {y : Str} (h : NameOk (cl y)) : y.length ≤ 12 := by
  have := h.2.1
  rw [← cl_len] at this
  omega
theorem nt_lo (n : Nat) : Lo (nt n) := fun c hc => by
  have := TL.numL_digits n c (by rw [← sg_nt]; exact hc)
  omega
theorem wT_lo (m : MW) : Lo (wT m) := by
  cases m with
  | num h => exact nt_lo h
  | dash => exact lo_ofB (by decide +kernel)
  | z7 => exact lo_ofB (by decide +kernel)
theorem rk_pl {y : Str} (h : NameOk (cl y)) : Rk (.pl y) := ⟨⟨plain_name h, nm_len h⟩, fun w hw => by
  rcases List.mem_cons.mp hw with rfl | hw
  · exact lo_ofB (by decide +kernel)
  · rw [List.mem_singleton.mp hw]; exact nm_lo h⟩
theorem rk_st {y : Str} (h : NameOk (cl y)) : Rk (.st y) := ⟨⟨plain_name h, nm_len h⟩, fun w hw => by
  rcases List.mem_cons.mp hw with rfl | hw
  · exact lo_ofB (by decide +kernel)
  · rw [List.mem_singleton.mp hw]; exact nm_lo h⟩
theorem rk_re {n : Nat} (h : n ≤ 999) : Rk (.re n) := ⟨h, fun w hw => by
  rcases List.mem_cons.mp hw with rfl | hw
  · exact lo_ofB (by decide +kernel)
  · rw [List.mem_singleton.mp hw]; exact nt_lo n⟩
theorem rk_rd {a b : Str} {m n : MW} (ha : NameOk (cl a)) (hb : NameOk (cl b)) (hm : MOk m) (hn : MOk n) : Rk (.rd a b m n) := ⟨⟨⟨plain_name ha, nm_len ha⟩, ⟨plain_name hb, nm_len hb⟩, hm, hn⟩, fun w hw => by
  rcases List.mem_cons.mp hw with rfl | hw
  · exact lo_ofB (by decide +kernel)
  rcases List.mem_cons.mp hw with rfl | hw
  · exact nm_lo ha
  rcases List.mem_cons.mp hw with rfl | hw
  · exact nm_lo hb
  rcases List.mem_cons.mp hw with rfl | hw
  · exact wT_lo m
  · rw [List.mem_singleton.mp hw]; exact wT_lo n⟩
def spMinW : Sp := fun vs H Q _ => ∃ (p : Addr) (wr k : Nat), vs = [.ref p, .int (wr : Nat)] ∧ wr ≤ 1 ∧ Pen H p (k + 2) ∧ ∀ m H', Keep [p] H H' → Pen H' p k → MOk m → Q (.str (wT m)) H'
theorem rd_minW (K : PySem.W.Frag) : ∀ vs H Q E, spMinW vs H Q E → run (t__law_minutes_word K spDraw) (L2.start N__law_minutes_word vs) H Q := by
  rintro _ H Q _ ⟨p, wr, k, rfl, hw, hp, q⟩
  show run (t__law_minutes_word K spDraw) [some (.ref p), some (.int (wr : Nat)), none] H Q
  unfold t__law_minutes_word
  walk_at "sx"
  refine ⟨p, 60, k + 1, rfl, by decide, by decide, hp, fun v H1 v0 v1 k1 hp1 => ?_⟩
  walk_at "sx"
  obtain ⟨n, rfl⟩ : ∃ n : Nat, v = n := ⟨v.toNat, by omega⟩
  have en : (1 : Int) + (n : Int) = ((1 + n : Nat) : Int) := by omega
  rw [en]
  refine ⟨log_small (by omega) (by omega), ?_⟩
  refine ⟨by walk_at "sz", fun l H2 n2 k2 e2 => ?_⟩
  walk_at "sx"
  refine ⟨cmul_right (by omega), p, _, k, rfl, by omega, by omega, hp1.keep k2, fun u H3 u0 u1 k3 hp3 => ?_⟩
  have nlp := pen_ne hp1 n2
  have e3 := k3 _ _ (nin1 nlp) e2
  have kk : Keep [p] H H3 := k1.trans (k2.all.trans k3)
  obtain rfl | rfl | rfl | rfl | rfl | rfl | rfl : u = 0 ∨ u = 1 ∨ u = 2 ∨ u = 3 ∨ u = 4 ∨ u = 5 ∨ u = 6 := by omega
  · exact g_ixL e3 (at_lit 0 rfl rfl) (q (.num 1) H3 kk hp3 (by show 1 ≤ 999; omega))
  · exact g_ixL e3 (at_lit 1 rfl rfl) (q (.num 60) H3 kk hp3 (by show 60 ≤ 999; omega))
  · exact g_ixL e3 (at_lit 2 rfl rfl) (q .dash H3 kk hp3 trivial)
  · exact g_ixL e3 (at_lit 3 rfl rfl) (q (.num (1 + n)) H3 kk hp3 (by show 1 + n ≤ 999; omega))
  · exact g_ixL e3 (at_lit 4 rfl rfl) (q (.num 0) H3 kk hp3 (by show 0 ≤ 999; omega))
  · exact g_ixL e3 (at_lit 5 rfl rfl) (q (.num 61) H3 kk hp3 (by show 61 ≤ 999; omega))
  · exact g_ixL e3 (at_lit 6 rfl rfl) (q .z7 H3 kk hp3 trivial)
def spRoadW : Sp := fun vs H Q _ => ∃ (p nl : Addr) (ys : List Str) (wr k : Nat), vs = [.ref p, .ref nl, .int (wr : Nat)] ∧ H nl = some (.lst (ys.map V.str)) ∧ 1 ≤ ys.length ∧ ys.length ≤ 13 ∧ (∀ y ∈ ys, NameOk (cl y)) ∧ wr ≤ 1 ∧ Pen H p (k + 10) ∧ nl ≠ p ∧
  ∀ r H', Keep [p] H H' → Pen H' p k → Rk r → Q (.str (gText r)) H'
theorem rd_roadW (K : PySem.W.Frag) : ∀ vs H Q E, spRoadW vs H Q E → run (t__law_road_row K spDraw spMinW) (L2.start N__law_road_row vs) H Q := by
  rintro _ H Q _ ⟨p, nl, ys, wr, k, rfl, hn, l1, l13, nm, hw, hp, nlp, q⟩
  show run (t__law_road_row K spDraw spMinW) [some (.ref p), some (.ref nl), some (.int (wr : Nat)), none, none, none] H Q
  unfold t__law_road_row
  walk_at "sx"
  refine g_lenL hn ⟨p, _, k + 9, rfl, by rw [List.length_map]; omega, by rw [List.length_map]; omega, hp, fun one H1 o0 o1 k1 hp1 => ?_⟩
  rw [List.length_map] at o1
  walk_at "sx"
  have hn1 := k1 _ _ (nin1 nlp) hn
  refine g_lenL hn1 ?_
  rw [List.length_map]
  walk_at "sx"
  refine ⟨p, _, k + 8, rfl, by split <;> omega, by split <;> omega, hp1, fun d0 H2 d1 d2 k2 hp2 => ?_⟩
  walk_at "sx"
  have hn2 := k2 _ _ (nin1 nlp) hn1
  refine g_lenL hn2 ?_
  rw [List.length_map]
  walk_at "sx"
  refine ⟨by omega, ?_⟩
  have m0 := Int.emod_nonneg (one + 1 + d0) (show (ys.length : Int) ≠ 0 by omega)
  have m1 := Int.emod_lt_of_pos (one + 1 + d0) (show (0 : Int) < (ys.length : Int) by omega)
  generalize (one + 1 + d0) % (ys.length : Int) = ot at m0 m1
  have k02 := k1.trans k2
  have rest : ∀ (o2 : Int) (H3 : Hp), 0 ≤ o2 → o2 < ys.length → Keep [p] H H3 → Pen H3 p (k + 7) → t__law_road_row_r2 K spDraw spMinW { nx := fun x H' => Q V.non H', rt := Q } [some (.ref p), some (.ref nl), some (.int (wr : Nat)), some (.int one), some (.int o2), none] H3 := fun o2 H3 p0 p1 k3 hp3 => by
    obtain ⟨ya, ha⟩ : ∃ y, ys[one.toNat]? = some y := ⟨_, List.getElem?_eq_getElem (by omega)⟩
    obtain ⟨yb, hb⟩ : ∃ y, ys[o2.toNat]? = some y := ⟨_, List.getElem?_eq_getElem (by omega)⟩
    have na := nm ya (List.mem_of_getElem? ha)
    have nb := nm yb (List.mem_of_getElem? hb)
    have la := nm_len na
    have lb := nm_len nb
    have hn3 := k3 _ _ (nin1 nlp) hn
    have lwT : ∀ m : MW, MOk m → (wT m).length ≤ 12 := fun m hm => wordG_len (r := .rd ya yb m m) (rk_rd na nb hm hm).1 _ (by simp [wordsG])
    unfold t__law_road_row_r2
    walk_at "sx"
    refine g_ixL hn3 (at_lit one.toNat (by omega) (by rw [List.getElem?_map, ha]; rfl)) (g_ixL hn3 (at_lit o2.toNat (by omega) (by rw [List.getElem?_map, hb]; rfl)) ⟨p, wr, k + 5, rfl, hw, hp3, fun m H4 k4 hp4 hm => ⟨by walk_at "sz", fun wl H5 n5 k5 e5 => ?_⟩⟩)
    walk_at "sx"
    have lm := lwT m hm
    have nwp := pen_ne hp4 n5
    have hp5 := hp4.keep k5
    have k35 : Keep [p] H H5 := k3.trans (k4.trans k5.all)
    have jn : ∀ (n : MW) (b : Addr) (H' : Hp), MOk n → Keep [p] H H' → (∃ j, k ≤ j ∧ Pen H' p j) → H' b = some (.lst ([V.str "road", V.str ya, V.str yb, V.str (wT m)] ++ [V.str (wT n)])) → uJoin K (.str " ") [.ref b] H' Q := fun n b H' hn' kk ⟨j, hj, pj⟩ eb => by
      have ln := lwT n hn'
      refine ⟨_, b, wordsG (.rd ya yb m n), rfl, rfl, .inl (lst_sq eb), ?_, q (.rd ya yb m n) H' kk (pj.less hj) (rk_rd na nb hm hn')⟩
      simp only [wordsG, List.map_cons, List.map_nil, List.sum_cons, List.sum_nil, List.length_cons, List.length_nil]
      rw [show ("road" : Str).length = 4 by decide +kernel, show (" " : Str).length = 1 by decide +kernel]
      omega
    have other : t__law_road_row_r1 K spDraw spMinW { nx := fun x H' => Q V.non H', rt := Q } [some (.ref p), some (.ref nl), some (.int (wr : Nat)), some (.int one), some (.int o2), some (.ref wl)] H5 := by
      unfold t__law_road_row_r1
      walk_at "sx"
      refine ⟨⟨_, rfl⟩, p, wr, k + 3, rfl, hw, hp5, fun n H6 k6 hp6 hn' => ⟨by walk_at "sz", fun z H7 n7 k7 e7 => ?_⟩⟩
      have e6 := k7 _ _ nin0 (k6 _ _ (nin1 nwp) e5)
      refine g_addL e6 e7 (by walk_at "sz") fun b H8 n8 k8 e8 => ?_
      exact jn n b H8 hn' (k35.trans (k6.trans (k7.trans k8).all)) ⟨k + 3, by omega, (hp6.keep k7).keep k8⟩ e8
    refine g_ixL e5 (at_lit 3 rfl rfl) (g_eq rfl ⟨_, rfl, ?_⟩)
    rw [show (Str.ofString "-") = "-" from rfl, str_eqB, mw_dash]
    have dash : (∀ n, m ≠ .num n) → True := fun _ => trivial
    cases hmm : m with
    | num h =>
      rw [if_neg (fun z => nomatch z)]
      exact other
    | z7 =>
      rw [if_neg (fun z => nomatch z)]
      exact other
    | dash =>
      rw [if_pos rfl]
      refine g_eq rfl ⟨_, rfl, ?_⟩
      by_cases w0 : wr = 0
      · rw [if_pos (decide_eq_true (by rw [w0]; rfl))]
        refine ⟨⟨_, rfl⟩, by walk_at "sz", fun z H7 n7 k7 e7 => ?_⟩
        refine g_addL (k7 _ _ nin0 e5) e7 (by walk_at "sz") fun b H8 n8 k8 e8 => ?_
        exact jn (.num 1) b H8 (by show 1 ≤ 999; omega) (k35.trans (k7.trans k8).all) ⟨k + 5, by omega, (hp5.keep k7).keep k8⟩ e8
      · rw [if_neg (by rw [decide_eq_false fun z => w0 (by injection z with z; omega)]; decide)]
        exact other
  by_cases w0 : 0 < (wr : Int)
  · rw [if_pos w0]
    refine ⟨p, 3, k + 7, rfl, by decide, by decide, hp2, fun u H3 u0 u1 k3 hp3 => g_eq rfl ⟨_, rfl, ?_⟩⟩
    split
    · exact rest one H3 o0 o1 (k02.trans k3) hp3
    · exact rest ot H3 m0 m1 (k02.trans k3) hp3
  · rw [if_neg w0]
    exact rest ot H2 m0 m1 k02 (hp2.less (by omega))


/-! ### kinds of rows, drawn -/
def gV (r : GRow) : V := .str (gText r)
abbrev gsV (rs : List GRow) : List V := rs.map gV
def GAt (H : Hp) (v : V) (rs : List GRow) : Prop := ∃ c, v = .ref c ∧ H c = some (.lst (gsV rs))
def AllRk (rs : List GRow) : Prop := ∀ r ∈ rs, Rk r
theorem AllRk.app {a b : List GRow} (ha : AllRk a) (hb : AllRk b) : AllRk (a ++ b) := fun r hr => (List.mem_append.mp hr).elim (ha r) (hb r)
theorem gsV_ins (rs : List GRow) (i : Nat) (r : GRow) : (gsV rs).take i ++ [gV r] ++ (gsV rs).drop i = gsV (rs.take i ++ [r] ++ rs.drop i) := by simp [gsV, List.map_take, List.map_drop]
theorem ins_len {α : Type} (rs : List α) (i : Nat) (r : α) : (rs.take i ++ [r] ++ rs.drop i).length = rs.length + 1 := by
  have := congrArg List.length (List.take_append_drop i rs)
  simp only [List.length_append] at this ⊢
  simp
  omega
theorem AllRk.ins {rs : List GRow} {i : Nat} {r : GRow} (h : AllRk rs) (hr : Rk r) : AllRk (rs.take i ++ [r] ++ rs.drop i) := fun x hx => by
  rcases List.mem_append.mp hx with hx | hx
  · rcases List.mem_append.mp hx with hx | hx
    · exact h x (List.mem_of_mem_take hx)
    · rw [List.mem_singleton.mp hx]; exact hr
  · exact h x (List.mem_of_mem_drop hx)
def spKinds9 : Sp := fun vs H Q _ => ∃ (p : Addr) (k : Nat), vs = [.ref p] ∧ Pen H p (k + 1000) ∧
  ∀ a H' qs (A B C D : List GRow), Keep [p] H H' → Pen H' p k → H a = none → H' a = some (.lst qs) → EI (GAt H') qs [A, B, C, D] → AllRk A → AllRk B → AllRk C → AllRk D → 1 ≤ A.length → A.length ≤ 13 → B.length ≤ 20 → C.length ≤ 8 → D.length ≤ 2 → Q (.ref a) H'
/-- texts made of some names -/
theorem g_named {K : PySem.W.Frag} {H : Hp} {a : Addr} {ys : List Str} {pre : Str} {f : Str → GRow} {σ : L2.St} {i : Nat} {Q : VK} (hl : H a = some (.lst (ys.map V.str))) (l13 : ys.length ≤ 13) (ly : ∀ y ∈ ys, y.length ≤ 12) (lp : pre.length ≤ 10)
    (ef : ∀ y, pre ++ y = gText (f y)) (hw : i < σ.length) (q : ∀ D H', H D = none → Keep [] H H' → H' D = some (.lst (gsV (ys.map f))) → Q (.ref D) H') :
    CU K (gName i) tYes (tOp (uAdd K) (tC (.str pre)) (tVar i)) [i] σ Q (.ref a) H := by
  refine g_CL (S := []) (fun _ h => (List.not_mem_nil h).elim) hl nin0 ⟨fun j H' acc => acc = gsV ((ys.take j).map f), fun _ _ _ _ => rfl, ?_, ?_⟩
  · rintro D j H2 acc R R0 nD hj k2 eD rfl hR _
    rw [List.length_map] at hj
    have hr := List.getElem?_eq_getElem hj
    have ev : (ys.map V.str).getD j .non = .str ys[j] := by rw [List.getD_eq_getElem?_getD, List.getElem?_map, hr]; rfl
    have lyj := ly _ (List.mem_of_getElem? hr)
    have tk := take_one hr
    generalize ys[j] = y at hr ev lyj tk
    show gName i ((ys.map V.str).getD j .non) _ _ _
    rw [ev]
    have e1 : wipe σ [i] = σ.set i none := rfl
    have e2 : ∀ z : Str, wipe ((σ.set i none).set i (some (.str z))) [i] = σ.set i none := fun z => by
      show (((σ.set i none).set i (some (.str z))).set i none) = _
      simp
    rw [e1]
    refine ⟨e2 y, ?_⟩
    have e3 : ((σ.set i none).set i (some (V.str y)))[i]? = some (some (V.str y)) := List.getElem?_set_self (by simpa using hw)
    show (if true = true then tOp (uAdd K) (tC (V.str pre)) (tVar i) ((σ.set i none).set i (some (V.str y))) H2 R else R0 H2)
    rw [if_pos rfl]
    refine ⟨.str y, e3, ?_⟩
    refine e_addS.mpr ⟨len_le (by omega), ?_⟩
    rw [ef y]
    refine hR _ _ (Keep.refl _ _) (by rw [List.length_map, List.length_map, List.length_take]; exact len_lt (by omega)) fun H3 _ => ?_
    show gsV ((ys.take j).map f) ++ [V.str (gText (f y))] = gsV ((ys.take (j + 1)).map f)
    rw [tk]
    simp [gsV, gV]
  · rintro D H2 acc nD k2 eD rfl
    rw [List.length_map, List.take_length] at eD
    exact q D H2 nD k2 eD


local macro_rules | `(tactic| walk_at "sx") => `(tactic| try simp only [run, tSeq, tAsg, tIfS, tTest, tOp, tUn, tVar, tC, tRet, tRetN, tDrop, gName, gSub, gCons, gNil, tNext, tCons, tNil, tGo, tCB, tAndT, tOrT, tNotT, tTru, tAnd, tOr, tNot, tChain, tIf, tLstU, tTupU, tSl, tPart, tNoPart, tPar, tBM, tBM0, tDNewU, tDic1,
  List.getElem?_cons_zero, List.getElem?_cons_succ, List.set_cons_zero, List.set_cons_succ, Option.some.injEq, exists_eq_left', exists_eq_left, V.int.injEq, V.bl.injEq, V.str.injEq, V.ref.injEq, true_and, and_true, e_rI, e_rI0, e_rU, e_addI, e_addS, e_mulI, e_abs, e_max2, e_min2, e_str, e_intI, e_intB, e_isN, e_notN, e_truB, e_truI, wipe, tYes, tDicI, tIdx, tM1, tM0, e_lcU, e_lcR1, e_ten6, e_ten18, e_ten60, e_for1, e_for2, e_forU, e_forE, e_lcZ, e_dget, e_dput, e_forE, decide_eq_true_eq, if_true, if_false, ite_true, ite_false, Bool.false_eq_true, Bool.not_true, Bool.not_false, Bool.true_eq_false])
theorem cut_from {xs : List V} (n : Nat) : cutV xs (some (n : Int)) none = xs.drop n := by
  unfold cutV
  rw [HT.sIx_none, HT.sIx_nat, ← List.length_drop, List.take_length]
  by_cases h : n ≤ xs.length
  · rw [Nat.min_eq_left h]
  · rw [Nat.min_eq_right (by omega), List.drop_length, List.drop_eq_nil_of_le (by omega)]
theorem cut_upto {xs : List V} (n : Nat) : cutV xs none (some (n : Int)) = xs.take n := by
  unfold cutV
  rw [HT.sIx_none, HT.sIx_nat, List.drop_zero, Nat.sub_zero]
  by_cases h : n ≤ xs.length
  · rw [Nat.min_eq_left h]
  · rw [Nat.min_eq_right (by omega), List.take_length, List.take_of_length_le (by omega)]
theorem EI4 {H : Hp} {a b c d : Addr} {A B C D : List GRow} (h1 : H a = some (.lst (gsV A))) (h2 : H b = some (.lst (gsV B))) (h3 : H c = some (.lst (gsV C))) (h4 : H d = some (.lst (gsV D))) : EI (GAt H) [V.ref a, V.ref b, V.ref c, V.ref d] [A, B, C, D] :=
  .cons ⟨a, rfl, h1⟩ (.cons ⟨b, rfl, h2⟩ (.cons ⟨c, rfl, h3⟩ (.cons ⟨d, rfl, h4⟩ .nil)))
theorem rd_kinds9 (K : PySem.W.Frag) : ∀ vs H Q E, spKinds9 vs H Q E → run (t__law_kinds K spNamesP spDraw spRoadW) (L2.start N__law_kinds vs) H Q := by
  rintro _ H Q _ ⟨p, k, rfl, hp, q⟩
  show run (t__law_kinds K spNamesP spDraw spRoadW) [some (.ref p), none, none, none, none, none, none, none, none, none, none] H Q
  unfold t__law_kinds
  walk_at "sx"
  refine ⟨p, 13, k + 700, rfl, by decide, by decide, hp.less (by omega), fun nl H1 ys n1 k1 hp1 e1 ly nm nd => ?_⟩
  have nlp := pen_ne hp n1
  have l12 : ∀ y ∈ ys, y.length ≤ 12 := fun y hy => nm_len (nm y hy)
  walk_at "sx"
  refine ⟨p, 10, k + 699, rfl, by decide, by decide, hp1, fun a0 H2 a1 a2 k2 hp2 => ?_⟩
  walk_at "sx"
  refine ⟨p, 4, k + 698, rfl, by decide, by decide, hp2, fun b0 H3 b1 b2 k3 hp3 => g_eq rfl ?_⟩
  walk_at "sx"
  refine ⟨cmul_small (by split <;> decide), ?_⟩
  obtain ⟨many, hmany, m1, m13⟩ : ∃ m : Nat, (1 + a0 + (if b0 = 0 then 1 else 0) * 2 : Int) = m ∧ 1 ≤ m ∧ m ≤ 12 := by
    by_cases h : b0 = 0
    · rw [if_pos h]; exact ⟨(1 + a0 + 1 * 2).toNat, by omega, by omega, by omega⟩
    · rw [if_neg h]; exact ⟨(1 + a0 + 0 * 2).toNat, by omega, by omega, by omega⟩
  rw [hmany]
  refine ⟨p, 4, k + 697, rfl, by decide, by decide, hp3, fun c0 H4 c1 c2 k4 hp4 => ?_⟩
  walk_at "sx"
  have e4 := k4 _ _ (nin1 nlp) (k3 _ _ (nin1 nlp) (k2 _ _ (nin1 nlp) e1))
  have k04 : Keep [p] H H4 := k1.trans (k2.trans (k3.trans k4))
  have nmT : ∀ j, ∀ y ∈ ys.take j, NameOk (cl y) := fun j y hy => nm y (List.mem_of_mem_take hy)
  have rest3 : ∀ (pc : Addr) (A : List GRow) (H5 : Hp), Keep [p] H H5 → Pen H5 p (k + 690) → H5 nl = some (.lst (ys.map V.str)) → H5 pc = some (.lst (gsV A)) → pc ≠ p → AllRk A → 1 ≤ A.length → A.length ≤ 13 →
      t__law_kinds_r3 K spNamesP spDraw spRoadW { nx := fun x H' => Q V.non H', rt := Q } [some (.ref p), some (.ref nl), some (.int (many : Nat)), some (.int c0), some (.ref pc), none, none, none, none, none, none] H5 := by
    intro pc A H5 k5 hp5 e5 ep pcp rA lA1 lA13
    unfold t__law_kinds_r3
    walk_at "sx"
    refine ⟨by walk_at "sz", fun rl H6 n6 k6 e6 => ?_⟩
    walk_at "sx"
    have rlp := pen_ne hp5 n6
    have hp6 := hp5.keep k6
    have rln : rl ≠ nl := (ne_of_none e5 n6).symm
    have rlc : rl ≠ pc := (ne_of_none ep n6).symm
    refine ⟨p, 19, k + 689, rfl, by decide, by decide, hp6, fun d0 H7 d1 d2 k7 hp7 => ⟨by walk_at "sz", fun z H8 n8 k8 e8 => ?_⟩⟩
    refine ⟨p, 3, k + 688, rfl, by decide, by decide, hp7.keep k8, fun f0 H9 f1 f2 k9 hp9 => ?_⟩
    have zp := pen_ne hp7 n8
    have ez9 := k9 _ _ (nin1 zp) e8
    obtain ⟨cnt, hcnt, lcnt⟩ : ∃ c : Nat, atI [V.int d0, V.int 18, V.int 20] f0 = some (.int (c : Nat)) ∧ c ≤ 20 := by
      obtain rfl | rfl | rfl : f0 = 0 ∨ f0 = 1 ∨ f0 = 2 := by omega
      · exact ⟨d0.toNat, by rw [show V.int ((d0.toNat : Nat) : Int) = V.int d0 by rw [Int.toNat_of_nonneg d1]]; rfl, by omega⟩
      · exact ⟨18, rfl, by omega⟩
      · exact ⟨20, rfl, by omega⟩
    refine g_ixL ez9 hcnt ?_
    have k69 : Keep [p] H6 H9 := k7.trans (k8.all.trans k9)
    have q9 : Keep [p] H H9 := (k5.trans k6.all).trans k69
    refine g_FR1 (by omega) (by omega) ⟨fun i σ H' => ∃ (y6 y7 : Option V) (B : List GRow), σ = [some (.ref p), some (.ref nl), some (.int (many : Nat)), some (.int c0), some (.ref pc), some (.ref rl), y6, y7, none, none, none] ∧ Keep [p] H H' ∧ Pen H' p (k + 680 - 20 * i) ∧ H' nl = some (.lst (ys.map V.str)) ∧ H' pc = some (.lst (gsV A)) ∧ H' rl = some (.lst (gsV B)) ∧ B.length = i ∧ AllRk B,
      ⟨_, _, [], rfl, q9, hp9.less (by omega), k69 _ _ (nin1 nlp) (k6 _ _ nin0 e5), k69 _ _ (nin1 pcp) (k6 _ _ nin0 ep), k69 _ _ (nin1 rlp) e6, rfl, fun _ h => (List.not_mem_nil h).elim⟩, ?_, ?_⟩
    · rintro i σ HA hi ⟨y6, y7, B, rfl, kA, pA, eA, epA, erA, lB, rB⟩
      have hi20 : i < 20 := by rw [Int.toNat_natCast] at hi; omega
      walk_at "sx"
      unfold t__law_kinds_b1
      walk_at "sx"
      have go : ∀ (wr : Nat) (HB : Hp), wr ≤ 1 → Keep [p] HA HB → Pen HB p (k + 680 - 20 * i - 1) → tyV K "list" (.ref rl) HB ∧ uSl K (.ref nl) none (some (many : Int)) HB (fun x H1 => spRoadW [.ref p, x, .int (wr : Nat)] H1 (fun x H1 => uAppend (.ref rl) [x] H1 fun x H1 => ∃ (y6 y7 : Option V) (B' : List GRow),
          [some (V.ref p), some (V.ref nl), some (V.int (many : Nat)), some (V.int c0), some (V.ref pc), some (V.ref rl), some (V.int (i : Nat)), some (V.int (wr : Nat)), none, none, none] = [some (.ref p), some (.ref nl), some (.int (many : Nat)), some (.int c0), some (.ref pc), some (.ref rl), y6, y7, none, none, none] ∧ Keep [p] H H1 ∧ Pen H1 p (k + 680 - 20 * (i + 1)) ∧ H1 nl = some (.lst (ys.map V.str)) ∧ H1 pc = some (.lst (gsV A)) ∧ H1 rl = some (.lst (gsV B')) ∧ B'.length = i + 1 ∧ AllRk B') E0) := fun wr HB hw kB pB => by
        have eB := kB _ _ (nin1 nlp) eA
        have epB := kB _ _ (nin1 pcp) epA
        have erB := kB _ _ (nin1 rlp) erA
        refine ⟨.inl ⟨rfl, _, .inl (.inl erB)⟩, g_slL (lst_sq eB) fun sl HC nC kC eC => ?_⟩
        rw [cut_upto, ← List.map_take] at eC
        have lt : (ys.take many).length = many := by rw [List.length_take]; omega
        refine ⟨p, sl, ys.take many, wr, k + 680 - 20 * (i + 1), rfl, eC, by omega, by omega, nmT many, hw, (pB.keep kC).less (by omega), pen_ne pB nC, fun r HD kD pD hr => ?_⟩
        have erD := kD _ _ (nin1 rlp) (kC _ _ nin0 erB)
        refine g_append erD (by rw [List.length_map]; exact len_lt (by omega)) fun HE kE eE => ?_
        have rl0 : H rl = none := k5.free (nin1 rlp) n6
        refine ⟨_, _, B ++ [r], rfl, ((kA.trans kB).trans (kC.all.trans kD)).past kE rl0, pD.keepL kE rlp, kE _ _ (nin1 rln.symm) (kD _ _ (nin1 nlp) (kC _ _ nin0 eB)), kE _ _ (nin1 rlc.symm) (kD _ _ (nin1 pcp) (kC _ _ nin0 epB)), ?_, by simp [lB], rB.app fun x hx => by rw [List.mem_singleton.mp hx]; exact hr⟩
        rw [eE]
        simp [gsV, gV]
      refine g_eq rfl ⟨_, rfl, ?_⟩
      by_cases hc : c0 = 1
      · rw [if_pos (decide_eq_true (by rw [hc]))]
        refine ⟨p, 9, k + 680 - 20 * i - 1, rfl, by decide, by decide, pA.less (by omega), fun w0 HB w1 w2 kB pB => g_eq rfl (e_intB.mpr ?_)⟩
        by_cases hw : (V.int w0 = V.int 0)
        · rw [if_pos (decide_eq_true hw)]
          exact go 1 HB (by decide) kB pB
        · rw [if_neg (by simpa using hw)]
          exact go 0 HB (by decide) kB pB
      · rw [if_neg (by simpa using hc), show decide (V.int c0 = V.int 1) = false from decide_eq_false (fun z => hc (V.int.inj z))]
        exact e_intB.mpr (go 0 HA (by decide) (Keep.refl _ _) (pA.less (by omega)))
    · rintro σ HA ⟨y6, y7, B, rfl, kA, pA, eA, epA, erA, lB, rB⟩
      rw [Int.toNat_natCast] at lB pA
      unfold t__law_kinds_r2
      walk_at "sx"
      refine ⟨p, 8, k + 270, rfl, by decide, by decide, pA.less (by omega), fun u HB u0 u1 kB pB => ?_⟩
      obtain ⟨un, rfl⟩ : ∃ n : Nat, u = n := ⟨u.toNat, by omega⟩
      have eB := kB _ _ (nin1 nlp) eA
      have epB := kB _ _ (nin1 pcp) epA
      have erB := kB _ _ (nin1 rlp) erA
      refine ⟨_, rfl, g_slL (lst_sq eB) fun sl HC nC kC eC => ?_⟩
      rw [cut_upto, ← List.map_take] at eC
      have ltk : (ys.take un).length ≤ 7 := by rw [List.length_take]; omega
      refine g_named (f := .st) eC (by omega) (fun y hy => l12 y (List.mem_of_mem_take hy)) (by decide +kernel) g_st (by simp) fun st HD nD kD eD => ?_
      have nlD := kD _ _ nin0 (kC _ _ nin0 eB)
      have pcD := kD _ _ nin0 (kC _ _ nin0 epB)
      have rlD := kD _ _ nin0 (kC _ _ nin0 erB)
      have pD : Pen HD p (k + 270) := (pB.keep kC).keep kD
      have kHD : Keep [p] H HD := kA.trans (kB.trans (kC.all.trans kD.all))
      have stp : st ≠ p := pen_ne (pB.keep kC) nD
      have str : st ≠ rl := (ne_of_none (kC _ _ nin0 erB) nD).symm
      have stc : st ≠ pc := (ne_of_none (kC _ _ nin0 epB) nD).symm
      have rC : AllRk ((ys.take un).map GRow.st) := fun r hr => by
        obtain ⟨y, hy, rfl⟩ := List.mem_map.mp hr
        exact rk_st (nmT un y hy)
      have lC : ((ys.take un).map GRow.st).length ≤ 7 := by rw [List.length_map]; exact ltk
      generalize ((ys.take un).map GRow.st) = C0 at eD rC lC
      walk_at "sx"
      have last : ∀ (C : List GRow) (HE : Hp), Keep [p] H HE → Pen HE p (k + 260) → HE pc = some (.lst (gsV A)) → HE rl = some (.lst (gsV B)) → HE st = some (.lst (gsV C)) → AllRk C → C.length ≤ 8 →
          t__law_kinds_r1 K spNamesP spDraw spRoadW { nx := fun x H' => Q V.non H', rt := Q } [some (.ref p), some (.ref nl), some (.int (many : Nat)), some (.int c0), some (.ref pc), some (.ref rl), y6, y7, some (.ref st), none, none] HE := by
        intro C HE kE pE epE erE esE rCC lCC
        unfold t__law_kinds_r1
        walk_at "sx"
        refine ⟨by walk_at "sz", fun z HF nF kF eF => ⟨p, 4, k + 250, rfl, by decide, by decide, (pE.keep kF).less (by omega), fun v HG v0 v1 kG pG => ?_⟩⟩
        have zp := pen_ne pE nF
        obtain ⟨h, hh, h999⟩ : ∃ h : Nat, atI [V.str "0", V.str "120", V.str "121", V.str "7"] v = some (.str (nt h)) ∧ h ≤ 999 := by
          obtain rfl | rfl | rfl | rfl : v = 0 ∨ v = 1 ∨ v = 2 ∨ v = 3 := by omega
          · exact ⟨0, at_lit 0 rfl (by decide +kernel), by decide⟩
          · exact ⟨120, at_lit 1 rfl (by decide +kernel), by decide⟩
          · exact ⟨121, at_lit 2 rfl (by decide +kernel), by decide⟩
          · exact ⟨7, at_lit 3 rfl (by decide +kernel), by decide⟩
        refine g_ixL (kG _ _ (nin1 zp) eF) hh (e_addS.mpr ⟨by have l3 := nt_len (h := h) (k := 3) (by decide) (by show h < 1000; omega); have l6 : (Str.ofString "reach ").length = 6 := (by decide +kernel); exact Nat.le_trans (Nat.add_le_add (Nat.le_of_eq l6) l3) (by decide), ?_⟩)
        rw [g_re h]
        refine ⟨by walk_at "sz", fun w HI nI kI eI => ?_⟩
        walk_at "sx"
        have pI := pG.keep kI
        have wp := pen_ne pG nI
        refine ⟨p, 3, k + 240, rfl, by decide, by decide, pI.less (by omega), fun m HJ m0 m1 kJ pJ => .inr ⟨w, m, _, rfl, rfl, kJ _ _ (nin1 wp) eI, by omega, by omega, ?_, fun R HK nK kK eK => ?_⟩⟩
        · show 1 * m.toNat ≤ sizeLine
          have : m.toNat ≤ 2 := by omega
          exact Nat.le_trans (by omega) (len_le (n := 2) (by decide))
        · refine ⟨by walk_at "sz", fun a HL nL kL eL => ?_⟩
          have kJ' : Keep [p] HE HJ := kF.all.trans (kG.trans (kI.all.trans kJ))
          have kEL : Keep [p] HE HL := kJ'.trans (kK.trans kL).all
          have eD : (List.replicate m.toNat [V.str (gText (GRow.re h))]).flatten = gsV (List.replicate m.toNat (GRow.re h)) := by
            obtain rfl | rfl | rfl : m = 0 ∨ m = 1 ∨ m = 2 := by omega
            · rfl
            · rfl
            · rfl
          rw [eD] at eK
          exact q a HL _ A B C (List.replicate m.toNat (GRow.re h)) (kE.trans kEL) ((((pJ.keep kK).keep kL)).less (by omega)) ((kE.trans (kJ'.trans kK.all)).free (nin1 (pen_ne (pJ.keep kK) nL)) nL) eL
            (EI4 (kEL _ _ (nin1 pcp) epE) (kEL _ _ (nin1 rlp) erE) (kEL _ _ (nin1 stp) esE) (kL _ _ nin0 eK)) rA rB rCC (fun r hr => by rw [(List.mem_replicate.mp hr).2]; exact rk_re h999) lA1 lA13 (by omega) lCC (by rw [List.length_replicate]; omega)
      refine g_eq rfl ⟨_, rfl, ?_⟩
      by_cases hc : c0 = 2
      · rw [if_pos (decide_eq_true (by rw [hc]))]
        refine ⟨.inl ⟨rfl, _, .inl (.inl eD)⟩, g_lenL eD (e_addI.mpr ⟨p, _, k + 269, rfl, by rw [List.length_map]; omega, by rw [List.length_map]; omega, pD.less (by omega), fun v HE v0 v1 kE pE => ?_⟩)⟩
        rw [List.length_map] at v1
        have nlE := kE _ _ (nin1 nlp) nlD
        refine ⟨p, 13, k + 268, rfl, by decide, by decide, pE, fun u2 HF u20 u21 kF pF => ?_⟩
        obtain ⟨yu, hyu⟩ : ∃ y, ys[u2.toNat]? = some y := ⟨_, List.getElem?_eq_getElem (by omega)⟩
        have nyu := nm yu (List.mem_of_getElem? hyu)
        refine g_ixL (kF _ _ (nin1 nlp) nlE) (at_lit u2.toNat (by omega) (by rw [List.getElem?_map, hyu]; rfl)) (e_addS.mpr ⟨by have l1 := nm_len nyu; have l6 : (Str.ofString "stand ").length = 6 := (by decide +kernel); exact Nat.le_trans (Nat.add_le_add (Nat.le_of_eq l6) l1) (by decide), ?_⟩)
        rw [g_st yu]
        have kDF : Keep [p] HD HF := kE.trans kF
        refine g_insert (kDF _ _ (nin1 stp) eD) (by rw [List.length_map]; exact len_lt (by omega)) v0 (by omega) fun HG kG eG => ?_
        rw [show V.str (gText (GRow.st yu)) = gV (.st yu) from rfl, gsV_ins] at eG
        have st0 : H st = none := (kA.trans (kB.trans kC.all)).free (nin1 stp) nD
        exact last _ HG ((kHD.trans kDF).past kG st0) ((pF.keepL kG stp).less (by omega)) (kG _ _ (nin1 stc.symm) (kDF _ _ (nin1 pcp) pcD)) (kG _ _ (nin1 str.symm) (kDF _ _ (nin1 rlp) rlD)) eG (rC.ins (rk_st nyu)) (by rw [ins_len]; omega)
      · rw [if_neg (by simpa using hc)]
        exact last C0 HD kHD (pD.less (by omega)) pcD rlD eD rC (by omega)
  refine g_slL (lst_sq e4) fun sl HC nC kC eC => ?_
  rw [cut_upto, ← List.map_take] at eC
  have ltk : (ys.take many).length = many := by rw [List.length_take]; omega
  refine g_named (f := .pl) eC (by omega) (fun y hy => l12 y (List.mem_of_mem_take hy)) (by decide +kernel) g_pl (by simp) fun pc HD nD kD eD => ?_
  have nlD := kD _ _ nin0 (kC _ _ nin0 e4)
  have pD : Pen HD p (k + 697) := (hp4.keep kC).keep kD
  have kHD : Keep [p] H HD := k04.trans (kC.all.trans kD.all)
  have pcp : pc ≠ p := pen_ne (hp4.keep kC) nD
  have pcl : pc ≠ nl := (ne_of_none (kC _ _ nin0 e4) nD).symm
  have rA : AllRk ((ys.take many).map GRow.pl) := fun r hr => by
    obtain ⟨y, hy, rfl⟩ := List.mem_map.mp hr
    exact rk_pl (nmT many y hy)
  have lA : ((ys.take many).map GRow.pl).length = many := by rw [List.length_map]; exact ltk
  generalize ((ys.take many).map GRow.pl) = A0 at eD rA lA
  walk_at "sx"
  refine g_eq rfl ⟨_, rfl, ?_⟩
  by_cases hc : c0 = 0
  · rw [if_pos (decide_eq_true (by rw [hc]))]
    refine ⟨.inl ⟨rfl, _, .inl (.inl eD)⟩, p, _, k + 696, rfl, by omega, by omega, pD, fun v HE v0 v1 kE pE => ⟨p, _, k + 695, rfl, by omega, by omega, pE, fun u2 HF u20 u21 kF pF => ?_⟩⟩
    have kDF : Keep [p] HD HF := kE.trans kF
    have eF := kDF _ _ (nin1 pcp) eD
    obtain ⟨r, hr⟩ : ∃ r, A0[u2.toNat]? = some r := ⟨_, List.getElem?_eq_getElem (by omega)⟩
    refine g_ixL eF (at_lit u2.toNat (by omega) (by rw [List.getElem?_map, hr]; rfl)) ?_
    refine g_insert eF (by rw [List.length_map]; exact len_lt (by omega)) v0 (by omega) fun HG kG eG => ?_
    rw [gsV_ins] at eG
    have pc0 : H pc = none := (k04.trans kC.all).free (nin1 pcp) nD
    exact rest3 pc _ HG ((kHD.trans kDF).past kG pc0) ((pF.keepL kG pcp).less (by omega)) (kG _ _ (nin1 pcl.symm) (kDF _ _ (nin1 nlp) nlD)) eG pcp (rA.ins (rA r (List.mem_of_getElem? hr))) (by rw [ins_len]; omega) (by rw [ins_len]; omega)
  · rw [if_neg (by simpa using hc)]
    exact rest3 pc A0 HD kHD (pD.less (by omega)) nlD eD pcp rA (by omega) (by omega)


/-! ### a text of such rows, drawn -/
theorem ei_getL {α β : Type} {R : α → β → Prop} : ∀ {xs : List α} {ys : List β}, EI R xs ys → ∀ {i : Nat} {x : α}, xs[i]? = some x → ∃ y, ys[i]? = some y ∧ R x y
  | _, _, .nil, i, x, h => by simp at h
  | _, _, .cons r e, 0, x, h => ⟨_, rfl, by
    have h' := Option.some.inj h
    rw [← h']; exact r⟩
  | _, _, .cons r e, i + 1, x, h => ei_getL e h
theorem ei_imp {α β : Type} {R S : α → β → Prop} (f : ∀ a b, R a b → S a b) : ∀ {xs : List α} {ys : List β}, EI R xs ys → EI S xs ys
  | _, _, .nil => .nil
  | _, _, .cons r e => .cons (f _ _ r) (ei_imp f e)
theorem ei_len4 {α β : Type} {R : α → β → Prop} {xs : List α} {a b c d : β} (e : EI R xs [a, b, c, d]) : ∃ w x y z, xs = [w, x, y, z] ∧ R w a ∧ R x b ∧ R y c ∧ R z d := by
  cases e with
  | cons r1 e => cases e with
    | cons r2 e => cases e with
      | cons r3 e => cases e with
        | cons r4 e => cases e; exact ⟨_, _, _, _, rfl, r1, r2, r3, r4⟩
theorem ei4 {α β : Type} {R : α → β → Prop} {w x y z : α} {a b c d : β} (h1 : R w a) (h2 : R x b) (h3 : R y c) (h4 : R z d) : EI R [w, x, y, z] [a, b, c, d] := .cons h1 (.cons h2 (.cons h3 (.cons h4 .nil)))
theorem sum_len {n : Nat} : ∀ {ys : List Str}, (∀ y ∈ ys, y.length ≤ n) → (ys.map (·.length)).sum ≤ ys.length * n
  | [], _ => by simp
  | y :: ys, h => by
    have h1 := h y (by simp)
    have h2 := sum_len (ys := ys) fun z hz => h z (by simp [hz])
    simp only [List.map_cons, List.sum_cons, List.length_cons, Nat.add_mul]
    omega
theorem flat_take {Ls : List (List GRow)} {i : Nat} {L : List GRow} (h : Ls[i]? = some L) : (Ls.take (i + 1)).flatten = (Ls.take i).flatten ++ L := by
  rw [List.take_add_one, h]
  simp
theorem flat_le {Ls : List (List GRow)} (i : Nat) : (Ls.take i).flatten.length ≤ Ls.flatten.length := by
  have := congrArg (fun x : List (List GRow) => x.flatten.length) (List.take_append_drop i Ls)
  simp only [List.flatten_append, List.length_append] at this
  omega
def spText9 : Sp := fun vs H Q _ => ∃ (p : Addr) (k : Nat), vs = [.ref p] ∧ Pen H p (k + 1100) ∧
  ∀ rows H', Keep [p] H H' → Pen H' p k → GsOk rows → AllRk rows → Q (.str (gsText rows)) H'
theorem rd_text9 (K : PySem.W.Frag) : ∀ vs H Q E, spText9 vs H Q E → run (t__law_text K spKinds9 spDraw) (L2.start N__law_text vs) H Q := by
  rintro _ H Q _ ⟨p, k, rfl, hp, q⟩
  show run (t__law_text K spKinds9 spDraw) [some (.ref p), none, none, none, none] H Q
  unfold t__law_text
  walk_at "sx"
  refine ⟨p, k + 100, rfl, hp, fun a H1 qs A B C D k1 p1 n1 e1 ei rA rB rC rD lA1 lA lB lC lD => ?_⟩
  have ap := pen_ne hp n1
  walk_at "sx"
  refine ⟨p, 8, k + 99, rfl, by decide, by decide, p1, fun at0 H2 a0 a1 k2 p2 => ?_⟩
  walk_at "sx"
  have main : ∀ (b : Addr) (xs : List V) (Ls : List (List GRow)) (H3 : Hp), Keep [p] H H3 → Pen H3 p (k + 98) → H3 b = some (.lst xs) → EI (GAt H3) xs Ls → (∀ L ∈ Ls, AllRk L) → xs.length = Ls.length → 1 ≤ Ls.flatten.length → Ls.flatten.length ≤ 43 →
      t__law_text_r3 K spKinds9 spDraw { nx := fun x H' => Q V.non H', rt := Q } [some (.ref p), some (.ref b), some (.int at0), none, none] H3 := by
    intro b xs Ls H3 k3 p3 eb ei' rL lx f1 f43
    unfold t__law_text_r3
    walk_at "sx"
    refine ⟨by walk_at "sz", fun rl H4 n4 k4 e4 => ?_⟩
    have rlp : rl ≠ p := pen_ne p3 n4
    have rlb : b ≠ rl := ne_of_none eb n4
    have rl0 : H rl = none := k3.free (nin1 rlp) n4
    have allF : AllRk Ls.flatten := fun r hr => by
      obtain ⟨L, hL, hr⟩ := List.mem_flatten.mp hr
      exact rL L hL r hr
    walk_at "sx"
    refine e_forU.mpr ?_
    walk_at "sx"
    refine g_FL (fun i σ H' => ∃ y4, σ = [some (.ref p), some (.ref b), some (.int at0), some (.ref rl), y4] ∧ Keep [rl] H4 H' ∧ H' rl = some (.lst (gsV (Ls.take i).flatten))) (lst_sq (k4 _ _ nin0 eb)) ⟨_, rfl, Keep.refl _ _, e4⟩
      (fun i σ H' _ ⟨_, _, kk, _⟩ => lst_sq (kk _ _ (nin1 rlb) (k4 _ _ nin0 eb))) ?_ ?_
    · rintro i x σ H5 hx ⟨y4, rfl, k5, e5⟩
      obtain ⟨L, hL, c, rfl, ec⟩ := ei_getL ei' hx
      have c5 := k5 _ _ (nin1 (ne_of_none ec n4)) (k4 _ _ nin0 ec)
      have fl := flat_le (Ls := Ls) (i + 1)
      have ft := flat_take hL
      walk_at "sx"
      unfold t__law_text_b1
      walk_at "sx"
      refine ⟨.inl ⟨rfl, _, .inl (.inl e5)⟩, rl, c, _, _, rfl, rfl, e5, c5, ?_, fun H6 k6 e6 => ?_⟩
      · rw [ft, List.length_append] at fl
        rw [List.length_map, List.length_map]
        exact len_le (by omega)
      refine ⟨_, rfl, k5.trans k6, ?_⟩
      rw [e6, ft]
      simp [gsV]
    · rintro σ H5 ⟨y4, rfl, k5, e5⟩
      rw [lx, List.take_length] at e5
      have k05 : Keep [p] H H5 := (k3.trans k4.all).past k5 rl0
      have p5 : Pen H5 p (k + 98) := (p3.keep k4).keepL k5 rlp
      have done : ∀ (rows : List GRow) (H6 : Hp), Keep [p] H H6 → Pen H6 p k → H6 rl = some (.lst (gsV rows)) → AllRk rows → 1 ≤ rows.length → rows.length ≤ 44 →
          t__law_text_r1 K spKinds9 spDraw { nx := fun x H' => Q V.non H', rt := Q } [some (.ref p), some (.ref b), some (.int at0), some (.ref rl), y4] H6 := fun rows H6 k6 p6 e6 rr r1 r2 => by
        unfold t__law_text_r1
        walk_at "sx"
        have ok : GsOk rows := ⟨fun z => by rw [z] at r1; simp at r1, by omega, fun r hr => (rr r hr).1⟩
        refine ⟨⟨_, rfl⟩, _, rl, rows.map gText, rfl, rfl, .inl (lst_sq (by rw [List.map_map]; exact e6)), ?_, q rows H6 k6 p6 ok rr⟩
        have := sum_len (n := 65) (ys := rows.map gText) fun y hy => by
          obtain ⟨r, hr, rfl⟩ := List.mem_map.mp hy
          exact gText_len (ok.ok r hr)
        rw [List.length_map] at this ⊢
        rw [show (Str.ofString "\n").length = 1 by decide +kernel]
        omega
      unfold t__law_text_r2
      walk_at "sx"
      refine g_eq rfl ⟨_, rfl, ?_⟩
      by_cases h3 : at0 = 3
      · rw [if_pos (decide_eq_true (by rw [h3]))]
        refine ⟨.inl ⟨rfl, _, .inl (.inl e5)⟩, g_lenL e5 ⟨p, _, k + 97, rfl, by rw [List.length_map]; omega, by rw [List.length_map]; omega, p5, fun v H6 v0 v1 k6 p6 => ?_⟩⟩
        rw [List.length_map] at v1
        obtain ⟨r, hr⟩ : ∃ r, Ls.flatten[v.toNat]? = some r := ⟨_, List.getElem?_eq_getElem (by omega)⟩
        have e6 := k6 _ _ (nin1 rlp) e5
        refine g_ixL e6 (at_lit v.toNat (by omega) (by rw [List.getElem?_map, hr]; rfl)) ?_
        refine g_append e6 (by rw [List.length_map]; exact len_lt (by omega)) fun H7 k7 e7 => ?_
        refine done (Ls.flatten ++ [r]) H7 ((k05.trans k6).past k7 rl0) ((p6.keepL k7 rlp).less (by omega)) (by rw [e7]; simp [gsV]) (allF.app fun x hx => by rw [List.mem_singleton.mp hx]; exact allF r (List.mem_of_getElem? hr)) (by rw [List.length_append]; show 1 ≤ _ + 1; omega) (by rw [List.length_append]; show _ + 1 ≤ 44; omega)
      · rw [if_neg (by simpa using h3)]
        exact done _ H5 k05 (p5.less (by omega)) e5 allF f1 (by omega)
  obtain ⟨w, x, y, z, rfl, r1, r2, r3, r4⟩ := ei_len4 ei
  have gk : ∀ {v : V} {L : List GRow} {H' : Hp}, Keep [p] H1 H' → GAt H1 v L → GAt H' v L := fun {v L H'} kk ⟨c, e, h⟩ => ⟨c, e, kk _ _ (nin1 (fun z => by
    obtain ⟨d, e1, f1, f2, _⟩ := p1
    rw [z, f2] at h
    have h' := HO.lst.inj (Option.some.inj h)
    cases L with
    | nil => cases h'
    | cons r L => exact nomatch (List.cons.inj h').1)) h⟩
  have e2 := k2 _ _ (nin1 ap) e1
  have hL : ∀ Ls : List (List GRow), (∀ L ∈ Ls, L = A ∨ L = B ∨ L = C ∨ L = D) → ∀ L ∈ Ls, AllRk L := fun Ls h L hL => by
    rcases h L hL with rfl | rfl | rfl | rfl <;> assumption
  split
  · rename_i lt3
    have g1 := gk k2 r1
    have g2 := gk k2 r2
    have g3 := gk k2 r3
    have g4 := gk k2 r4
    obtain ⟨u1, v1, v2, u2, Ls, c1, c2, c3, c4, ei', hh, l1, l2, f1, f2⟩ : ∃ (u1 : List V) (v1 v2 : V) (u2 : List V) (Ls : List (List GRow)), cutV [w, x, y, z] none (some at0) = u1 ∧ atI [w, x, y, z] (at0 + 1) = some v1 ∧ atI [w, x, y, z] at0 = some v2 ∧ cutV [w, x, y, z] (some (at0 + 2)) none = u2 ∧
        EI (GAt H2) (u1 ++ [v1, v2] ++ u2) Ls ∧ (∀ L ∈ Ls, L = A ∨ L = B ∨ L = C ∨ L = D) ∧ (u1 ++ [v1, v2] ++ u2).length = 4 ∧ Ls.length = 4 ∧ 1 ≤ Ls.flatten.length ∧ Ls.flatten.length ≤ 43 := by
      obtain rfl | rfl | rfl : at0 = 0 ∨ at0 = 1 ∨ at0 = 2 := by omega
      · exact ⟨[], x, w, [y, z], [B, A, C, D], cut_upto 0, at_lit 1 rfl rfl, at_lit 0 rfl rfl, cut_from 2, ei4 g2 g1 g3 g4, by simp, rfl, rfl, by simp; omega, by simp; omega⟩
      · exact ⟨[w], y, x, [z], [A, C, B, D], cut_upto 1, at_lit 2 rfl rfl, at_lit 1 rfl rfl, cut_from 3, ei4 g1 g3 g2 g4, by simp, rfl, rfl, by simp; omega, by simp; omega⟩
      · exact ⟨[w, x], z, y, [], [A, B, D, C], cut_upto 2, at_lit 3 rfl rfl, at_lit 2 rfl rfl, cut_from 4, ei4 g1 g2 g4 g3, by simp, rfl, rfl, by simp; omega, by simp; omega⟩
    refine g_slL (lst_sq e2) fun s1 H3 n3 k3 e3 => ?_
    rw [c1] at e3
    refine g_ixL (k3 _ _ nin0 e2) c2 (g_ixL (k3 _ _ nin0 e2) c3 ⟨by walk_at "sz", fun s2 H4 n4 k4 e4 => ?_⟩)
    rw [List.length_append, List.length_append] at l1
    refine g_addL (k4 _ _ nin0 e3) e4 (len_le (by omega)) fun s3 H5 n5 k5 e5 => g_slL (lst_sq (k5 _ _ nin0 (k4 _ _ nin0 (k3 _ _ nin0 e2)))) fun s4 H6 n6 k6 e6 => ?_
    rw [c4] at e6
    refine g_addL (k6 _ _ nin0 e5) e6 (len_le (by rw [List.length_append]; omega)) fun s7 H7 n7 k7 e7 => ?_
    have kk : Keep [] H2 H7 := k3.trans (k4.trans (k5.trans (k6.trans k7)))
    exact main s7 _ Ls H7 ((k1.trans k2).trans kk.all) ((((((p2.keep k3).keep k4).keep k5).keep k6).keep k7).less (by omega)) e7 (ei_imp (fun v L ⟨c, e, h⟩ => ⟨c, e, kk _ _ nin0 h⟩) ei') (hL Ls hh) (by rw [List.length_append, List.length_append, l1, l2]) f1 f2
  · exact main a _ [A, B, C, D] H2 (k1.trans k2) (p2.less (by omega)) e2 (ei4 (gk k2 r1) (gk k2 r2) (gk k2 r3) (gk k2 r4)) (by
      intro L hL
      simp only [List.mem_cons, List.not_mem_nil, or_false] at hL
      rcases hL with rfl | rfl | rfl | rfl <;> assumption) rfl (by simp; omega) (by simp; omega)


/-! ### what a text tells is a town -/
theorem let_of : ∀ c ∈ sg LET, isLt c := by decide +kernel
theorem nsg_of : ∀ c ∈ sg NSG, isSg c := by decide +kernel
theorem name_of {y : Str} (h : nameV (.str y) = true) : NameOk (cl y) := by
  have h' : (if 1 ≤ y.length ∧ y.length ≤ 8 then letB ((sg y).getD 0 0) && (sg y).all nsgB else false) = true := h
  split at h'
  · rename_i l
    rw [Bool.and_eq_true] at h'
    obtain ⟨h1, h2⟩ := h'
    have e : (cl y).length = y.length := (cl_len y).symm
    refine ⟨by omega, by omega, fun c hc => nsg_of c (of_decide_eq_true (List.all_eq_true.mp h2 c hc)), fun c hc => ?_⟩
    have e2 : (sg y).getD 0 0 = c := by
      have hc' : (sg y).head? = some c := hc
      cases hy : sg y with
      | nil => rw [hy] at hc'; cases hc'
      | cons a r => rw [hy] at hc'; exact Option.some.inj hc'
    rw [e2] at h1
    exact let_of c (of_decide_eq_true h1)
  · cases h'
theorem road_of {ys : List Str} {r : Rd} (h : roadB ys r = true) : RdOk ys r := by
  unfold roadB at h
  simp only [Bool.and_eq_true, decide_eq_true_eq, Bool.not_eq_true', decide_eq_false_iff_not] at h
  obtain ⟨h1, h2, h3, h4, h5, h6⟩ := h
  have mo : ∀ m : Option Int, isDrv (mV m) = true → minOk m := fun m hm i e => by
    subst e
    have hm' : (decide (1 ≤ i) && decide (i ≤ 60)) = true := hm
    simp at hm'
    exact hm'
  refine ⟨h1, h2, h3, mo _ h5, mo _ h6, ?_⟩
  cases ha : r.there with
  | some _ => exact .inl (by simp)
  | none =>
    cases hb : r.back with
    | some _ => exact .inr (by simp)
    | none => rw [ha, hb] at h4; simp at h4
structure WS (S : TSt) : Prop where
  p10 : S.ps.length ≤ 10
  nd : S.ps.Nodup
  nm : ∀ y ∈ S.ps, nameV (.str y) = true
  r18 : S.rs.length ≤ 18
  rd : ∀ r ∈ S.rs, roadB S.ps r = true
  s5 : S.ss.length ≤ 5
  sn : S.ss.Nodup
  sp : ∀ y ∈ S.ss, y ∈ S.ps
  es : ∀ h ∈ S.es, S.ss ≠ [] ∧ h ≤ 120
theorem nodup_app {α : Type} {xs : List α} {y : α} (h : xs.Nodup) (n : y ∉ xs) : (xs ++ [y]).Nodup := by
  rw [List.nodup_append]
  refine ⟨h, by simp, fun a ha b hb => ?_⟩
  rw [List.mem_singleton] at hb
  intro z
  rw [← hb, ← z] at n
  exact n ha
theorem ws_step {S S' : TSt} {r : GRow} (w : WS S) (e : takeG S r = some S') : WS S' := by
  cases r with
  | pl y =>
    simp only [takeG] at e
    split at e
    · rename_i h
      have e' := Option.some.inj e; subst e'
      obtain ⟨h1, h2, h3, h4, h5⟩ := h
      have := w.p10
      exact ⟨by simp; omega, nodup_app w.nd h5, fun z hz => (List.mem_append.mp hz).elim (w.nm z) fun hz => by rw [List.mem_singleton.mp hz]; exact h4, w.r18, fun r hr => (List.not_mem_nil (a := r) (by
        have hr' : r ∈ S.rs := hr
        rw [h1] at hr'
        exact hr')).elim, w.s5, w.sn, fun z hz => List.mem_append.mpr (.inl (w.sp z hz)), w.es⟩
    · cases e
  | rd a b m n =>
    simp only [takeG] at e
    split at e
    · rename_i h
      have e' := Option.some.inj e; subst e'
      obtain ⟨h1, h2, h3⟩ := h
      have := w.r18
      exact ⟨w.p10, w.nd, w.nm, by simp; omega, fun z hz => (List.mem_append.mp hz).elim (w.rd z) fun hz => by rw [List.mem_singleton.mp hz]; exact h3, w.s5, w.sn, w.sp, w.es⟩
    · cases e
  | st y =>
    simp only [takeG] at e
    split at e
    · rename_i h
      have e' := Option.some.inj e; subst e'
      obtain ⟨h1, h2, h3⟩ := h
      have := w.s5
      exact ⟨w.p10, w.nd, w.nm, w.r18, w.rd, by simp; omega, nodup_app w.sn h3, fun z hz => (List.mem_append.mp hz).elim (w.sp z) fun hz => by rw [List.mem_singleton.mp hz]; exact h2, fun h hh => ⟨by simp, (w.es h hh).2⟩⟩
    · cases e
  | re h =>
    simp only [takeG] at e
    split at e
    · rename_i hh
      have e' := Option.some.inj e; subst e'
      exact ⟨w.p10, w.nd, w.nm, w.r18, w.rd, w.s5, w.sn, w.sp, fun z hz => (List.mem_append.mp hz).elim (w.es z) fun hz => by rw [List.mem_singleton.mp hz]; exact hh⟩
    · cases e
theorem ws_fold : ∀ (rows : List GRow) (i : Nat) {S S' : TSt}, WS S → foldG i S rows = .inr S' → WS S'
  | [], i, S, S', w, e => by
    unfold foldG at e
    have e' := Sum.inr.inj e
    rw [← e']; exact w
  | r :: rs, i, S, S', w, e => by
    unfold foldG at e
    split at e
    · cases e
    · cases ht : takeG S r with
      | none => rw [ht] at e; cases e
      | some S1 =>
        rw [ht] at e
        exact ws_fold rs (i + 1) (ws_step w ht) e
theorem res_ok {rows : List GRow} {T : Tn} (e : resG rows = .inr T) : TnOk T := by
  unfold resG at e
  cases hf : foldG 0 S0 rows with
  | inl i => rw [hf] at e; cases e
  | inr S =>
    rw [hf] at e
    have nn : ∀ {α : Type} (z : α), ¬ z ∈ ([] : List α) := fun z h => List.not_mem_nil h
    have w := ws_fold rows 0 (S := S0) ⟨by simp [S0], by simp [S0], fun z h => (nn z h).elim, by simp [S0], fun z h => (nn z h).elim, by simp [S0], by simp [S0], fun z h => (nn z h).elim, fun z h => (nn z h).elim⟩ hf
    cases he : S.es with
    | nil => simp only [he] at e; cases e
    | cons h hs =>
      simp only [he] at e
      have e' := Sum.inr.inj e; subst e'
      obtain ⟨s1, h120⟩ := w.es h (by rw [he]; simp)
      obtain ⟨y, hy⟩ : ∃ y, y ∈ S.ss := List.exists_mem_of_ne_nil _ s1
      have py := w.sp y hy
      exact ⟨List.length_pos_of_mem py, w.p10, w.nd, fun z hz => name_of (w.nm z hz), w.r18, fun r hr => road_of (w.rd r hr), List.length_pos_of_mem hy, w.s5, w.sn, w.sp, by show (0 : Int) ≤ (h : Nat); omega, by show ((h : Nat) : Int) ≤ 120; omega⟩


/-! ### the law -/
theorem g_told {K : PySem.W.Frag} {H : Hp} {a : Addr} {d : PyData} {w : Str} {v : V} {c k : Nat} {Q : VK} (h : H a = some (.lst [.str w, v])) (hd : Dp K H v d) (fw : fine (.str w)) (lw : w.length ≤ 10) (s : Sm c k d) (hc : c ≤ 200000) (hk : k ≤ 10) (q : Q (.str (PyData.list [.str w, d]).shown) H) : uReprX K [.ref a] H Q := by
  refine g_repX (.dp (.lst (lst_sq h) (.cons (.str _) (.cons hd .nil)))) ⟨fw, s.f, trivial⟩ ?_ ?_ q
  · have := s.d
    simp only [PyData.depth, PyData.depthAll]
    omega
  · have := s.c
    have : cost (.str w) = 10 * w.length + 2 := rfl
    simp only [cost, costs]
    omega
theorem sm_row {i : Nat} (h : i ≤ 100) : Sm 1921 0 (.int (i : Nat)) := ⟨log_small (by omega) (by omega), Nat.le_refl _, by simp [PyData.depth]⟩
theorem res_few {rows : List GRow} {i : Nat} : resG rows = .inl i → i ≤ rows.length := by
  have key : ∀ (rs : List GRow) (j : Nat) (S : TSt) (i : Nat), foldG j S rs = .inl i → i < j + rs.length := by
    intro rs
    induction rs with
    | nil => intro j S i e; unfold foldG at e; cases e
    | cons r rs ih =>
      intro j S i e
      unfold foldG at e
      have fin : j < j + (r :: rs).length := by simp
      split at e
      · have e' := Sum.inl.inj e; omega
      · cases ht : takeG S r with
        | none => rw [ht] at e; have e' := Sum.inl.inj e; omega
        | some S1 =>
          rw [ht] at e
          have := ih (j + 1) S1 i e
          simp only [List.length_cons]
          omega
  intro e
  unfold resG at e
  cases hf : foldG 0 S0 rows with
  | inl j =>
    rw [hf] at e
    have e' := Sum.inl.inj e
    have := key rows 0 S0 j hf
    omega
  | inr S =>
    rw [hf] at e
    cases he : S.es with
    | nil => simp only [he] at e; have e' := Sum.inl.inj e; omega
    | cons h hs => simp only [he] at e; cases e
def resD (rows : List GRow) : PyData := match resG rows with
  | .inl i => .list [.str "row", .int (i : Nat)]
  | .inr T => .list [.str "town", tnD T]
theorem rep_town {K : PySem.W.Frag} {H : Hp} {a t : Addr} {rows : List GRow} {T : Tn} {Q : VK} (e : resG rows = .inr T) (h : H a = some (.lst [.str "town", .ref t])) (ht : TnAt H t T) (q : Q (.str (resD rows).shown) H) : uReprX K [.ref a] H Q := by
  refine g_told h (dp_tn ht) (fun c hc => ?_) (by decide +kernel) (sm_tn (res_ok e)) (by decide) (by decide) (by unfold resD at q; rw [e] at q; exact q)
  have := List.all_eq_true.mp (show (sg "town").all (fun c => decide (c < 128)) = true by decide +kernel) c hc
  exact Nat.lt_trans (of_decide_eq_true this) (by decide)
theorem rep_row {K : PySem.W.Frag} {H : Hp} {a : Addr} {rows : List GRow} {i : Nat} {Q : VK} (ok : GsOk rows) (e : resG rows = .inl i) (h : H a = some (.lst [.str "row", .int (i : Nat)])) (q : Q (.str (resD rows).shown) H) : uReprX K [.ref a] H Q := by
  have l := res_few e
  have f := ok.few
  refine g_told h (.int _) (fun c hc => ?_) (by decide +kernel) (sm_row (i := i) (by omega)) (by decide) (by decide) (by unfold resD at q; rw [e] at q; exact q)
  have := List.all_eq_true.mp (show (sg "row").all (fun c => decide (c < 128)) = true by decide +kernel) c hc
  exact Nat.lt_trans (of_decide_eq_true this) (by decide)
theorem one_a : Str.ofString "place a" = gsText [.pl "a"] := cl_inj (by decide +kernel)
theorem Pen.kt {L : List Addr} {H H' : Hp} {p : Addr} {k : Nat} (h : Pen H p k) (ht : Tabs L H) (kk : KT L H H') : Pen H' p k := by
  obtain ⟨d, c, n, e, r⟩ := h
  exact ⟨d, c, n, kk.k _ _ (ht.lst e) e, r⟩
theorem TnAt.ktX {L : List Addr} {H H' : Hp} {a : Addr} {T : Tn} (h : TnAt H a T) (ht : Tabs L H) (k : KT L H H') : TnAt H' a T := h.keep k.k ht.noTup
theorem Pen.ninT {L : List Addr} {H : Hp} {p : Addr} {k : Nat} (h : Pen H p k) (ht : Tabs L H) : p ∉ L := by
  obtain ⟨d, c, n, e, r⟩ := h
  exact ht.lst e
theorem Tabs.keepPX {L : List Addr} {H H' : Hp} {p : Addr} (h : Tabs L H) (k : Keep [p] H H') (n : p ∉ L) : Tabs L H' := fun b hb => by
  obtain ⟨ps, e, t⟩ := h b hb
  exact ⟨ps, k _ _ (nin1 fun z => n (z ▸ hb)) e, t⟩
theorem Scr.keepP {K : PySem.W.Frag} {H H' : Hp} {a p : Addr} {xs : List V} {k : Nat} (h : Scr K H a xs) (hp : Pen H p k) (kk : Keep [p] H H') : Scr K H' a xs := by
  obtain ⟨d, c, n, e, _⟩ := hp
  refine h.elim (fun ⟨o, e2⟩ => .inl ⟨o, kk _ _ (nin1 fun z => ?_) e2⟩) .inr
  rw [z, e] at e2
  cases e2
def spLaw (K : PySem.W.Frag) (L : List Addr) : Sp := fun vs H Q _ => ∃ (a : Addr) (ns : List Int), vs = [.ref a] ∧ Scr K H a (ns.map V.int) ∧ ns.length ≤ 63 ∧ Tabs L H ∧ ∀ H', Q (.bl true) H'
theorem rd_law (K : PySem.W.Frag) {L : List Addr} {P1 : Addr} (hP : P1 ∈ L) : ∀ vs H Q E, spLaw K L vs H Q E → run (t_law K (spPen K) spText9 (spTold9 L P1) spRead) (L2.start N_law vs) H Q := by
  rintro _ H Q _ ⟨a, ns, rfl, hS, hl, htb, q⟩
  show run (t_law K (spPen K) spText9 (spTold9 L P1) spRead) [some (.ref a), none, none, none, none, none] H Q
  have rk0 : AllRk [GRow.pl "a"] := fun r hr => by
    rw [List.mem_singleton.mp hr]
    exact rk_pl (nameB_ok (by decide +kernel))
  have ok0 : GsOk [GRow.pl "a"] := ⟨by simp, by decide, fun r hr => (rk0 r hr).1⟩
  unfold t_law
  walk_at "sx"
  refine g_lenQ hS.sq ?_
  walk_at "sx"
  rw [List.length_map]
  rw [one_a]
  refine g_FR1 (by split <;> split <;> omega) (by split <;> split <;> omega) ⟨fun i σ H' => ∃ (rows : List GRow) (x2 x3 x4 x5 : Option V), σ = [some (.ref a), some (.str (gsText rows)), x2, x3, x4, x5] ∧ Scr K H' a (ns.map V.int) ∧ Tabs L H' ∧ GsOk rows ∧ AllRk rows, ⟨_, _, _, _, _, rfl, hS, htb, ok0, rk0⟩, ?_, ?_⟩
  · rintro i σ H1 hi ⟨rows0, x2, x3, x4, x5, rfl, hS1, tb1, ok1, rk1⟩
    unfold t_law_b2
    walk_at "sx"
    refine ⟨a, _, ns, rfl, hS1.sq, Int.natCast_nonneg i, fun p H2 n2 k2 hp => ?_⟩
    walk_at "sx"
    have tb2 := tb1.keep0 k2
    refine g_FR1 (by decide) (by decide) ⟨fun j σ H' => ∃ (rows : List GRow) (y4 y5 : Option V), σ = [some (.ref a), some (.str (gsText rows)), some (.int (i : Nat)), some (.ref p), y4, y5] ∧ Scr K H' a (ns.map V.int) ∧ Tabs L H' ∧ Pen H' p (1000000 - 1200 * j) ∧ GsOk rows ∧ AllRk rows, ⟨_, _, _, rfl, hS1.keep0 k2, tb2, hp, ok1, rk1⟩, ?_, ?_⟩
    · rintro j σ H3 hj ⟨rows, y4, y5, rfl, s3, t3, p3, ok, rk⟩
      have hj3 : j < 3 := hj
      unfold t_law_b1
      walk_at "sx"
      refine ⟨p, 1000000 - 1200 * (j + 1), rfl, p3.less (by omega), fun rows2 H4 k4 p4 ok2 rk2 => ?_⟩
      have t4 := t3.keepPX k4 (p3.ninT t3)
      have s4 := s3.keepP p3 k4
      walk_at "sx"
      have ask : ∀ (rs : List GRow) (H5 : Hp) (V1 : VK) (X : XK), GsOk rs → AllRk rs → Scr K H5 a (ns.map V.int) → Tabs L H5 → Pen H5 p (1000000 - 1200 * (j + 1)) → (∀ H6, Scr K H6 a (ns.map V.int) → Tabs L H6 → Pen H6 p (1000000 - 1200 * (j + 1)) → V1 (.bl false) H6) →
          spTold9 L P1 [.str (gsText rs)] H5 (fun x H6 => uReprX K [x] H6 fun x H6 => spRead [.str (gsText rs)] H6 (fun y H7 => uReprX K [y] H7 fun y H7 => uEq K true x y H7 V1) X) X := by
        intro rs H5 V1 X o r s5 t5 p5 fin
        have second : ∀ (H6 : Hp), Scr K H6 a (ns.map V.int) → Tabs L H6 → Pen H6 p (1000000 - 1200 * (j + 1)) → spRead [.str (gsText rs)] H6 (fun y H7 => uReprX K [y] H7 fun y H7 => uEq K true (.str (resD rs).shown) y H7 V1) X := by
          intro H6 s6 t6 p6
          refine ⟨rs, rfl, o, fun r' hr => (r r' hr).2, fun T e b t H7 k7 eb ht => rep_town e eb ht (g_ne rfl ?_), fun i' e b H7 k7 eb => rep_row o e eb (g_ne rfl ?_)⟩
          · rw [decide_eq_true rfl]
            exact fin H7 (s6.keep0 k7) (t6.keep0 k7) (p6.keep k7)
          · rw [decide_eq_true rfl]
            exact fin H7 (s6.keep0 k7) (t6.keep0 k7) (p6.keep k7)
        exact ⟨rs, rfl, o, t5, hP, fun T e b t H6 k6 eb ht => rep_town e eb ht (second H6 (s5.kt t5 k6) (k6.t t5) (p5.kt t5 k6)), fun i' e b H6 k6 eb => rep_row o e eb (second H6 (s5.kt t5 k6) (k6.t t5) (p5.kt t5 k6))⟩
      refine ask rows2 H4 _ _ ok2 rk2 s4 t4 p4 fun H6 s6 t6 p6 => ⟨false, rfl, ?_⟩
      rw [if_neg (by decide)]
      unfold t_law_r2
      walk_at "sx"
      refine ask rows H6 _ _ ok rk s6 t6 p6 fun H7 s7 t7 p7 => ⟨false, rfl, ?_⟩
      rw [if_neg (by decide)]
      unfold t_law_r1
      walk_at "sx"
      exact ⟨rows2, _, _, rfl, s7, t7, p7, ok2, rk2⟩
    · rintro σ H3 ⟨rows, y4, y5, rfl, s3, t3, p3, ok, rk⟩
      exact ⟨_, _, _, _, _, rfl, s3, t3, ok, rk⟩
  · rintro σ H1 ⟨rows0, x2, x3, x4, x5, rfl, hS1, tb1, ok1, rk1⟩
    unfold t_law_r3
    walk_at "sx"
    exact q H1


theorem all_mk {P q : Program} {w : World} {K : PySem.W.Frag} {h : Heap} {mg : Str → Option Value} {fa : Addr} (X : K.In h) (G : h.Ns mainGlobals mg) (hfa : mg "law" = some (.ref fa))
    {c_NoText : Addr} (ad_NoText : PySem.W.nsIn K mainGlobals "NoText" = some (some (.ref c_NoText)))
    {c_WagonError : Addr} (ad_WagonError : PySem.W.nsIn K mainGlobals "WagonError" = some (some (.ref c_WagonError)))
    {c_NoMoment : Addr} (ad_NoMoment : PySem.W.nsIn K mainGlobals "NoMoment" = some (some (.ref c_NoMoment)))
    {c_NoLog : Addr} (ad_NoLog : PySem.W.nsIn K mainGlobals "NoLog" = some (some (.ref c_NoLog)))
    {c_NoDeed : Addr} (ad_NoDeed : PySem.W.nsIn K mainGlobals "NoDeed" = some (some (.ref c_NoDeed)))
    {c_NoCall : Addr} (ad_NoCall : PySem.W.nsIn K mainGlobals "NoCall" = some (some (.ref c_NoCall)))
    {c_Late : Addr} (ad_Late : PySem.W.nsIn K mainGlobals "Late" = some (some (.ref c_Late)))
    {c_TooMany : Addr} (ad_TooMany : PySem.W.nsIn K mainGlobals "TooMany" = some (some (.ref c_TooMany)))
    {c_NoTown : Addr} (ad_NoTown : PySem.W.nsIn K mainGlobals "NoTown" = some (some (.ref c_NoTown)))
    {c_NoTelling : Addr} (ad_NoTelling : PySem.W.nsIn K mainGlobals "NoTelling" = some (some (.ref c_NoTelling)))
    {c_NoRow : Addr} (ad_NoRow : PySem.W.nsIn K mainGlobals "NoRow" = some (some (.ref c_NoRow)))
    {c_NoPaper : Addr} (ad_NoPaper : PySem.W.nsIn K mainGlobals "NoPaper" = some (some (.ref c_NoPaper)))
    (wga : PySem.W.specialIn K (.ref c_WagonError) "__getattribute__" = some (some (.builtin "type.__getattribute__"))) (wrd : PySem.W.readsIn K c_WagonError (.type "type") = true) (wfi : PySem.W.findCls K (.ref c_WagonError) (.type "type") "__init__" = some (.val (.builtin "ValueError.__init__")))
    {nm_NoText q_NoText : Str} {N_NoText : Addr} {bs_NoText : List Value} {sn_NoText : List Str} {sub_NoText : List Value} {ab_NoText : Bool} {col_NoText : Option Bool} {dd_NoText : Option Addr} {k0_NoText k1_NoText k2_NoText k3_NoText k5_NoText : Option Value}
    (oc_NoText : K.lookup c_NoText = some (excClassObj nm_NoText q_NoText c_NoText N_NoText bs_NoText [.ref c_WagonError, .type "ValueError", .type "Exception", .type "BaseException", .type "object"] true sn_NoText sub_NoText ab_NoText col_NoText dd_NoText k0_NoText k1_NoText k2_NoText k3_NoText k5_NoText "ValueError.__new__"))
    (sa_NoText : PySem.W.findIn K (.ref c_NoText) "__setattr__" = some (some (.builtin "object.__setattr__"))) (ex_NoText : PySem.W.subIn K (.ref c_NoText) (.type "BaseException") = some true) (ty_NoText : PySem.W.typeIn K (.ref c_NoText) = some (.type "type")) (kc_NoText : PySem.W.keepIn K (.ref c_NoText) = true)
    (na_NoText_row : PySem.W.findIn K (.ref c_NoText) "row" = some none)
    (F9 : NoTF K c_WagonError c_NoText [c_Late, c_NoCall, c_NoDeed, c_NoLog, c_NoMoment] [c_NoPaper, c_NoRow, c_NoTelling, c_NoTown, c_TooMany])
    {a_NoText____init__ : Addr} {od_NoText____init__ an_NoText____init__ : Option Addr} {sl_NoText____init__ : Array (Option Value)} {oc_NoText____init__ kV_NoText____init__ dc_NoText____init__ pm_NoText____init__ cd_NoText____init__ ct_NoText____init__ : Value}
    (fi_NoText____init__ : PySem.W.findIn K (.ref c_NoText) "__init__" = some (some (.ref a_NoText____init__))) (ifn_NoText____init__ : PySem.W.isFn K (.ref a_NoText____init__) = true)
    (lo_NoText____init__ : K.lookup a_NoText____init__ = some ⟨oc_NoText____init__, od_NoText____init__, .func (PySem.W.fnOf "__init__" "NoText.__init__" (defArgs s_NoText____init___) (defBody s_NoText____init___) (defScope s_NoText____init___) .none kV_NoText____init__ dc_NoText____init__ pm_NoText____init__ an_NoText____init__ cd_NoText____init__ ct_NoText____init__), sl_NoText____init__⟩)
    (co_NoText____init__ : PySem.W.codeIn K cd_NoText____init__ "NoText.__init__" = true) (kp_NoText____init__ : PySem.W.keepIn K (.ref a_NoText____init__) = true)
    {a_is_whole : Addr} {od_is_whole an_is_whole : Option Addr} {sl_is_whole : Array (Option Value)} {oc_is_whole kV_is_whole dc_is_whole pm_is_whole cd_is_whole ct_is_whole : Value}
    (ad_is_whole : PySem.W.nsIn K mainGlobals "is_whole" = some (some (.ref a_is_whole)))
    (lo_is_whole : K.lookup a_is_whole = some ⟨oc_is_whole, od_is_whole, .func (PySem.W.fnOf "is_whole" "is_whole" (defArgs s_is_whole_) (defBody s_is_whole_) (defScope s_is_whole_) .none kV_is_whole dc_is_whole pm_is_whole an_is_whole cd_is_whole ct_is_whole), sl_is_whole⟩)
    (co_is_whole : PySem.W.codeIn K cd_is_whole "is_whole" = true) (kp_is_whole : PySem.W.keepIn K (.ref a_is_whole) = true)
    {a_is_within : Addr} {od_is_within an_is_within : Option Addr} {sl_is_within : Array (Option Value)} {oc_is_within kV_is_within dc_is_within pm_is_within cd_is_within ct_is_within : Value}
    (ad_is_within : PySem.W.nsIn K mainGlobals "is_within" = some (some (.ref a_is_within)))
    (lo_is_within : K.lookup a_is_within = some ⟨oc_is_within, od_is_within, .func (PySem.W.fnOf "is_within" "is_within" (defArgs s_is_within_) (defBody s_is_within_) (defScope s_is_within_) .none kV_is_within dc_is_within pm_is_within an_is_within cd_is_within ct_is_within), sl_is_within⟩)
    (co_is_within : PySem.W.codeIn K cd_is_within "is_within" = true) (kp_is_within : PySem.W.keepIn K (.ref a_is_within) = true)
    {a_is_name tc_is_name P_is_name : Addr} {od_is_name an_is_name : Option Addr} {sl_is_name : Array (Option Value)} {oc_is_name kV_is_name dc_is_name pm_is_name ct_is_name : Value}
    (ad_is_name : PySem.W.nsIn K mainGlobals "is_name" = some (some (.ref a_is_name)))
    (lo_is_name : K.lookup a_is_name = some ⟨oc_is_name, od_is_name, .func (PySem.W.fnOf "is_name" "is_name" (defArgs s_is_name_) (defBody s_is_name_) (defScope s_is_name_) .none kV_is_name dc_is_name pm_is_name an_is_name (.ref tc_is_name) ct_is_name), sl_is_name⟩)
    (co_is_name : PySem.W.codeIn K (.ref tc_is_name) "is_name" = true) (kp_is_name : PySem.W.keepIn K (.ref a_is_name) = true)
    (tb_is_name : tabIn K tc_is_name = some P_is_name) (re_is_name : ((recsOf q).any fun e => e.name == "is_name") = true)
    {a_number_by tc_number_by P_number_by : Addr} {od_number_by an_number_by : Option Addr} {sl_number_by : Array (Option Value)} {oc_number_by kV_number_by dc_number_by pm_number_by ct_number_by : Value}
    (ad_number_by : PySem.W.nsIn K mainGlobals "number_by" = some (some (.ref a_number_by)))
    (lo_number_by : K.lookup a_number_by = some ⟨oc_number_by, od_number_by, .func (PySem.W.fnOf "number_by" "number_by" (defArgs s_number_by_) (defBody s_number_by_) (defScope s_number_by_) .none kV_number_by dc_number_by pm_number_by an_number_by (.ref tc_number_by) ct_number_by), sl_number_by⟩)
    (co_number_by : PySem.W.codeIn K (.ref tc_number_by) "number_by" = true) (kp_number_by : PySem.W.keepIn K (.ref a_number_by) = true)
    (tb_number_by : tabIn K tc_number_by = some P_number_by) (re_number_by : ((recsOf q).any fun e => e.name == "number_by") = true)
    {a__is_drive : Addr} {od__is_drive an__is_drive : Option Addr} {sl__is_drive : Array (Option Value)} {oc__is_drive kV__is_drive dc__is_drive pm__is_drive cd__is_drive ct__is_drive : Value}
    (ad__is_drive : PySem.W.nsIn K mainGlobals "_is_drive" = some (some (.ref a__is_drive)))
    (lo__is_drive : K.lookup a__is_drive = some ⟨oc__is_drive, od__is_drive, .func (PySem.W.fnOf "_is_drive" "_is_drive" (defArgs s__is_drive_) (defBody s__is_drive_) (defScope s__is_drive_) .none kV__is_drive dc__is_drive pm__is_drive an__is_drive cd__is_drive ct__is_drive), sl__is_drive⟩)
    (co__is_drive : PySem.W.codeIn K cd__is_drive "_is_drive" = true) (kp__is_drive : PySem.W.keepIn K (.ref a__is_drive) = true)
    {a_is_road : Addr} {od_is_road an_is_road : Option Addr} {sl_is_road : Array (Option Value)} {oc_is_road kV_is_road dc_is_road pm_is_road cd_is_road ct_is_road : Value}
    (ad_is_road : PySem.W.nsIn K mainGlobals "is_road" = some (some (.ref a_is_road)))
    (lo_is_road : K.lookup a_is_road = some ⟨oc_is_road, od_is_road, .func (PySem.W.fnOf "is_road" "is_road" (defArgs s_is_road_) (defBody s_is_road_) (defScope s_is_road_) .none kV_is_road dc_is_road pm_is_road an_is_road cd_is_road ct_is_road), sl_is_road⟩)
    (co_is_road : PySem.W.codeIn K cd_is_road "is_road" = true) (kp_is_road : PySem.W.keepIn K (.ref a_is_road) = true)
    {a__taken_stand : Addr} {od__taken_stand an__taken_stand : Option Addr} {sl__taken_stand : Array (Option Value)} {oc__taken_stand kV__taken_stand dc__taken_stand pm__taken_stand cd__taken_stand ct__taken_stand : Value}
    (ad__taken_stand : PySem.W.nsIn K mainGlobals "_taken_stand" = some (some (.ref a__taken_stand)))
    (lo__taken_stand : K.lookup a__taken_stand = some ⟨oc__taken_stand, od__taken_stand, .func (PySem.W.fnOf "_taken_stand" "_taken_stand" (defArgs s__taken_stand_) (defBody s__taken_stand_) (defScope s__taken_stand_) .none kV__taken_stand dc__taken_stand pm__taken_stand an__taken_stand cd__taken_stand ct__taken_stand), sl__taken_stand⟩)
    (co__taken_stand : PySem.W.codeIn K cd__taken_stand "_taken_stand" = true) (kp__taken_stand : PySem.W.keepIn K (.ref a__taken_stand) = true)
    {a__taken_reach : Addr} {od__taken_reach an__taken_reach : Option Addr} {sl__taken_reach : Array (Option Value)} {oc__taken_reach kV__taken_reach dc__taken_reach pm__taken_reach cd__taken_reach ct__taken_reach : Value}
    (ad__taken_reach : PySem.W.nsIn K mainGlobals "_taken_reach" = some (some (.ref a__taken_reach)))
    (lo__taken_reach : K.lookup a__taken_reach = some ⟨oc__taken_reach, od__taken_reach, .func (PySem.W.fnOf "_taken_reach" "_taken_reach" (defArgs s__taken_reach_) (defBody s__taken_reach_) (defScope s__taken_reach_) .none kV__taken_reach dc__taken_reach pm__taken_reach an__taken_reach cd__taken_reach ct__taken_reach), sl__taken_reach⟩)
    (co__taken_reach : PySem.W.codeIn K cd__taken_reach "_taken_reach" = true) (kp__taken_reach : PySem.W.keepIn K (.ref a__taken_reach) = true)
    {a__taken_place : Addr} {od__taken_place an__taken_place : Option Addr} {sl__taken_place : Array (Option Value)} {oc__taken_place kV__taken_place dc__taken_place pm__taken_place cd__taken_place ct__taken_place : Value}
    (ad__taken_place : PySem.W.nsIn K mainGlobals "_taken_place" = some (some (.ref a__taken_place)))
    (lo__taken_place : K.lookup a__taken_place = some ⟨oc__taken_place, od__taken_place, .func (PySem.W.fnOf "_taken_place" "_taken_place" (defArgs s__taken_place_) (defBody s__taken_place_) (defScope s__taken_place_) .none kV__taken_place dc__taken_place pm__taken_place an__taken_place cd__taken_place ct__taken_place), sl__taken_place⟩)
    (co__taken_place : PySem.W.codeIn K cd__taken_place "_taken_place" = true) (kp__taken_place : PySem.W.keepIn K (.ref a__taken_place) = true)
    {a__drive_by : Addr} {od__drive_by an__drive_by : Option Addr} {sl__drive_by : Array (Option Value)} {oc__drive_by kV__drive_by dc__drive_by pm__drive_by cd__drive_by ct__drive_by : Value}
    (ad__drive_by : PySem.W.nsIn K mainGlobals "_drive_by" = some (some (.ref a__drive_by)))
    (lo__drive_by : K.lookup a__drive_by = some ⟨oc__drive_by, od__drive_by, .func (PySem.W.fnOf "_drive_by" "_drive_by" (defArgs s__drive_by_) (defBody s__drive_by_) (defScope s__drive_by_) .none kV__drive_by dc__drive_by pm__drive_by an__drive_by cd__drive_by ct__drive_by), sl__drive_by⟩)
    (co__drive_by : PySem.W.codeIn K cd__drive_by "_drive_by" = true) (kp__drive_by : PySem.W.keepIn K (.ref a__drive_by) = true)
    {a__taken_road : Addr} {od__taken_road an__taken_road : Option Addr} {sl__taken_road : Array (Option Value)} {oc__taken_road kV__taken_road dc__taken_road pm__taken_road cd__taken_road ct__taken_road : Value}
    (ad__taken_road : PySem.W.nsIn K mainGlobals "_taken_road" = some (some (.ref a__taken_road)))
    (lo__taken_road : K.lookup a__taken_road = some ⟨oc__taken_road, od__taken_road, .func (PySem.W.fnOf "_taken_road" "_taken_road" (defArgs s__taken_road_) (defBody s__taken_road_) (defScope s__taken_road_) .none kV__taken_road dc__taken_road pm__taken_road an__taken_road cd__taken_road ct__taken_road), sl__taken_road⟩)
    (co__taken_road : PySem.W.codeIn K cd__taken_road "_taken_road" = true) (kp__taken_road : PySem.W.keepIn K (.ref a__taken_road) = true)
    {a__taken : Addr} {od__taken an__taken : Option Addr} {sl__taken : Array (Option Value)} {oc__taken kV__taken dc__taken pm__taken cd__taken ct__taken : Value}
    (ad__taken : PySem.W.nsIn K mainGlobals "_taken" = some (some (.ref a__taken)))
    (lo__taken : K.lookup a__taken = some ⟨oc__taken, od__taken, .func (PySem.W.fnOf "_taken" "_taken" (defArgs s__taken_) (defBody s__taken_) (defScope s__taken_) .none kV__taken dc__taken pm__taken an__taken cd__taken ct__taken), sl__taken⟩)
    (co__taken : PySem.W.codeIn K cd__taken "_taken" = true) (kp__taken : PySem.W.keepIn K (.ref a__taken) = true)
    {a_town_by : Addr} {od_town_by an_town_by : Option Addr} {sl_town_by : Array (Option Value)} {oc_town_by kV_town_by dc_town_by pm_town_by cd_town_by ct_town_by : Value}
    (ad_town_by : PySem.W.nsIn K mainGlobals "town_by" = some (some (.ref a_town_by)))
    (lo_town_by : K.lookup a_town_by = some ⟨oc_town_by, od_town_by, .func (PySem.W.fnOf "town_by" "town_by" (defArgs s_town_by_) (defBody s_town_by_) (defScope s_town_by_) .none kV_town_by dc_town_by pm_town_by an_town_by cd_town_by ct_town_by), sl_town_by⟩)
    (co_town_by : PySem.W.codeIn K cd_town_by "town_by" = true) (kp_town_by : PySem.W.keepIn K (.ref a_town_by) = true)
    {a__law_pen : Addr} {od__law_pen an__law_pen : Option Addr} {sl__law_pen : Array (Option Value)} {oc__law_pen kV__law_pen dc__law_pen pm__law_pen cd__law_pen ct__law_pen : Value}
    (ad__law_pen : PySem.W.nsIn K mainGlobals "_law_pen" = some (some (.ref a__law_pen)))
    (lo__law_pen : K.lookup a__law_pen = some ⟨oc__law_pen, od__law_pen, .func (PySem.W.fnOf "_law_pen" "_law_pen" (defArgs s__law_pen_) (defBody s__law_pen_) (defScope s__law_pen_) .none kV__law_pen dc__law_pen pm__law_pen an__law_pen cd__law_pen ct__law_pen), sl__law_pen⟩)
    (co__law_pen : PySem.W.codeIn K cd__law_pen "_law_pen" = true) (kp__law_pen : PySem.W.keepIn K (.ref a__law_pen) = true)
    {a__law_draw : Addr} {od__law_draw an__law_draw : Option Addr} {sl__law_draw : Array (Option Value)} {oc__law_draw kV__law_draw dc__law_draw pm__law_draw cd__law_draw ct__law_draw : Value}
    (ad__law_draw : PySem.W.nsIn K mainGlobals "_law_draw" = some (some (.ref a__law_draw)))
    (lo__law_draw : K.lookup a__law_draw = some ⟨oc__law_draw, od__law_draw, .func (PySem.W.fnOf "_law_draw" "_law_draw" (defArgs s__law_draw_) (defBody s__law_draw_) (defScope s__law_draw_) .none kV__law_draw dc__law_draw pm__law_draw an__law_draw cd__law_draw ct__law_draw), sl__law_draw⟩)
    (co__law_draw : PySem.W.codeIn K cd__law_draw "_law_draw" = true) (kp__law_draw : PySem.W.keepIn K (.ref a__law_draw) = true)
    {a__law_word : Addr} {od__law_word an__law_word : Option Addr} {sl__law_word : Array (Option Value)} {oc__law_word kV__law_word dc__law_word pm__law_word cd__law_word ct__law_word : Value}
    (ad__law_word : PySem.W.nsIn K mainGlobals "_law_word" = some (some (.ref a__law_word)))
    (lo__law_word : K.lookup a__law_word = some ⟨oc__law_word, od__law_word, .func (PySem.W.fnOf "_law_word" "_law_word" (defArgs s__law_word_) (defBody s__law_word_) (defScope s__law_word_) .none kV__law_word dc__law_word pm__law_word an__law_word cd__law_word ct__law_word), sl__law_word⟩)
    (co__law_word : PySem.W.codeIn K cd__law_word "_law_word" = true) (kp__law_word : PySem.W.keepIn K (.ref a__law_word) = true)
    {a__law_names : Addr} {od__law_names an__law_names : Option Addr} {sl__law_names : Array (Option Value)} {oc__law_names kV__law_names dc__law_names pm__law_names cd__law_names ct__law_names : Value}
    (ad__law_names : PySem.W.nsIn K mainGlobals "_law_names" = some (some (.ref a__law_names)))
    (lo__law_names : K.lookup a__law_names = some ⟨oc__law_names, od__law_names, .func (PySem.W.fnOf "_law_names" "_law_names" (defArgs s__law_names_) (defBody s__law_names_) (defScope s__law_names_) .none kV__law_names dc__law_names pm__law_names an__law_names cd__law_names ct__law_names), sl__law_names⟩)
    (co__law_names : PySem.W.codeIn K cd__law_names "_law_names" = true) (kp__law_names : PySem.W.keepIn K (.ref a__law_names) = true)
    {a__law_is_name : Addr} {od__law_is_name an__law_is_name : Option Addr} {sl__law_is_name : Array (Option Value)} {oc__law_is_name kV__law_is_name dc__law_is_name pm__law_is_name cd__law_is_name ct__law_is_name : Value}
    (ad__law_is_name : PySem.W.nsIn K mainGlobals "_law_is_name" = some (some (.ref a__law_is_name)))
    (lo__law_is_name : K.lookup a__law_is_name = some ⟨oc__law_is_name, od__law_is_name, .func (PySem.W.fnOf "_law_is_name" "_law_is_name" (defArgs s__law_is_name_) (defBody s__law_is_name_) (defScope s__law_is_name_) .none kV__law_is_name dc__law_is_name pm__law_is_name an__law_is_name cd__law_is_name ct__law_is_name), sl__law_is_name⟩)
    (co__law_is_name : PySem.W.codeIn K cd__law_is_name "_law_is_name" = true) (kp__law_is_name : PySem.W.keepIn K (.ref a__law_is_name) = true)
    {a__law_whole : Addr} {od__law_whole an__law_whole : Option Addr} {sl__law_whole : Array (Option Value)} {oc__law_whole kV__law_whole dc__law_whole pm__law_whole cd__law_whole ct__law_whole : Value}
    (ad__law_whole : PySem.W.nsIn K mainGlobals "_law_whole" = some (some (.ref a__law_whole)))
    (lo__law_whole : K.lookup a__law_whole = some ⟨oc__law_whole, od__law_whole, .func (PySem.W.fnOf "_law_whole" "_law_whole" (defArgs s__law_whole_) (defBody s__law_whole_) (defScope s__law_whole_) .none kV__law_whole dc__law_whole pm__law_whole an__law_whole cd__law_whole ct__law_whole), sl__law_whole⟩)
    (co__law_whole : PySem.W.codeIn K cd__law_whole "_law_whole" = true) (kp__law_whole : PySem.W.keepIn K (.ref a__law_whole) = true)
    {a__law_is_way : Addr} {od__law_is_way an__law_is_way : Option Addr} {sl__law_is_way : Array (Option Value)} {oc__law_is_way kV__law_is_way dc__law_is_way pm__law_is_way cd__law_is_way ct__law_is_way : Value}
    (ad__law_is_way : PySem.W.nsIn K mainGlobals "_law_is_way" = some (some (.ref a__law_is_way)))
    (lo__law_is_way : K.lookup a__law_is_way = some ⟨oc__law_is_way, od__law_is_way, .func (PySem.W.fnOf "_law_is_way" "_law_is_way" (defArgs s__law_is_way_) (defBody s__law_is_way_) (defScope s__law_is_way_) .none kV__law_is_way dc__law_is_way pm__law_is_way an__law_is_way cd__law_is_way ct__law_is_way), sl__law_is_way⟩)
    (co__law_is_way : PySem.W.codeIn K cd__law_is_way "_law_is_way" = true) (kp__law_is_way : PySem.W.keepIn K (.ref a__law_is_way) = true)
    {a__law_is_road : Addr} {od__law_is_road an__law_is_road : Option Addr} {sl__law_is_road : Array (Option Value)} {oc__law_is_road kV__law_is_road dc__law_is_road pm__law_is_road cd__law_is_road ct__law_is_road : Value}
    (ad__law_is_road : PySem.W.nsIn K mainGlobals "_law_is_road" = some (some (.ref a__law_is_road)))
    (lo__law_is_road : K.lookup a__law_is_road = some ⟨oc__law_is_road, od__law_is_road, .func (PySem.W.fnOf "_law_is_road" "_law_is_road" (defArgs s__law_is_road_) (defBody s__law_is_road_) (defScope s__law_is_road_) .none kV__law_is_road dc__law_is_road pm__law_is_road an__law_is_road cd__law_is_road ct__law_is_road), sl__law_is_road⟩)
    (co__law_is_road : PySem.W.codeIn K cd__law_is_road "_law_is_road" = true) (kp__law_is_road : PySem.W.keepIn K (.ref a__law_is_road) = true)
    {a__law_marks : Addr} {od__law_marks an__law_marks : Option Addr} {sl__law_marks : Array (Option Value)} {oc__law_marks kV__law_marks dc__law_marks pm__law_marks cd__law_marks ct__law_marks : Value}
    (ad__law_marks : PySem.W.nsIn K mainGlobals "_law_marks" = some (some (.ref a__law_marks)))
    (lo__law_marks : K.lookup a__law_marks = some ⟨oc__law_marks, od__law_marks, .func (PySem.W.fnOf "_law_marks" "_law_marks" (defArgs s__law_marks_) (defBody s__law_marks_) (defScope s__law_marks_) .none kV__law_marks dc__law_marks pm__law_marks an__law_marks cd__law_marks ct__law_marks), sl__law_marks⟩)
    (co__law_marks : PySem.W.codeIn K cd__law_marks "_law_marks" = true) (kp__law_marks : PySem.W.keepIn K (.ref a__law_marks) = true)
    {a__law_number : Addr} {od__law_number an__law_number : Option Addr} {sl__law_number : Array (Option Value)} {oc__law_number kV__law_number dc__law_number pm__law_number cd__law_number ct__law_number : Value}
    (ad__law_number : PySem.W.nsIn K mainGlobals "_law_number" = some (some (.ref a__law_number)))
    (lo__law_number : K.lookup a__law_number = some ⟨oc__law_number, od__law_number, .func (PySem.W.fnOf "_law_number" "_law_number" (defArgs s__law_number_) (defBody s__law_number_) (defScope s__law_number_) .none kV__law_number dc__law_number pm__law_number an__law_number cd__law_number ct__law_number), sl__law_number⟩)
    (co__law_number : PySem.W.codeIn K cd__law_number "_law_number" = true) (kp__law_number : PySem.W.keepIn K (.ref a__law_number) = true)
    {a__law_way_in : Addr} {od__law_way_in an__law_way_in : Option Addr} {sl__law_way_in : Array (Option Value)} {oc__law_way_in kV__law_way_in dc__law_way_in pm__law_way_in cd__law_way_in ct__law_way_in : Value}
    (ad__law_way_in : PySem.W.nsIn K mainGlobals "_law_way_in" = some (some (.ref a__law_way_in)))
    (lo__law_way_in : K.lookup a__law_way_in = some ⟨oc__law_way_in, od__law_way_in, .func (PySem.W.fnOf "_law_way_in" "_law_way_in" (defArgs s__law_way_in_) (defBody s__law_way_in_) (defScope s__law_way_in_) .none kV__law_way_in dc__law_way_in pm__law_way_in an__law_way_in cd__law_way_in ct__law_way_in), sl__law_way_in⟩)
    (co__law_way_in : PySem.W.codeIn K cd__law_way_in "_law_way_in" = true) (kp__law_way_in : PySem.W.keepIn K (.ref a__law_way_in) = true)
    {a__law_can_stand : Addr} {od__law_can_stand an__law_can_stand : Option Addr} {sl__law_can_stand : Array (Option Value)} {oc__law_can_stand kV__law_can_stand dc__law_can_stand pm__law_can_stand cd__law_can_stand ct__law_can_stand : Value}
    (ad__law_can_stand : PySem.W.nsIn K mainGlobals "_law_can_stand" = some (some (.ref a__law_can_stand)))
    (lo__law_can_stand : K.lookup a__law_can_stand = some ⟨oc__law_can_stand, od__law_can_stand, .func (PySem.W.fnOf "_law_can_stand" "_law_can_stand" (defArgs s__law_can_stand_) (defBody s__law_can_stand_) (defScope s__law_can_stand_) .none kV__law_can_stand dc__law_can_stand pm__law_can_stand an__law_can_stand cd__law_can_stand ct__law_can_stand), sl__law_can_stand⟩)
    (co__law_can_stand : PySem.W.codeIn K cd__law_can_stand "_law_can_stand" = true) (kp__law_can_stand : PySem.W.keepIn K (.ref a__law_can_stand) = true)
    {a__law_read : Addr} {od__law_read an__law_read : Option Addr} {sl__law_read : Array (Option Value)} {oc__law_read kV__law_read dc__law_read pm__law_read cd__law_read ct__law_read : Value}
    (ad__law_read : PySem.W.nsIn K mainGlobals "_law_read" = some (some (.ref a__law_read)))
    (lo__law_read : K.lookup a__law_read = some ⟨oc__law_read, od__law_read, .func (PySem.W.fnOf "_law_read" "_law_read" (defArgs s__law_read_) (defBody s__law_read_) (defScope s__law_read_) .none kV__law_read dc__law_read pm__law_read an__law_read cd__law_read ct__law_read), sl__law_read⟩)
    (co__law_read : PySem.W.codeIn K cd__law_read "_law_read" = true) (kp__law_read : PySem.W.keepIn K (.ref a__law_read) = true)
    {a__law_told : Addr} {od__law_told an__law_told : Option Addr} {sl__law_told : Array (Option Value)} {oc__law_told kV__law_told dc__law_told pm__law_told cd__law_told ct__law_told : Value}
    (ad__law_told : PySem.W.nsIn K mainGlobals "_law_told" = some (some (.ref a__law_told)))
    (lo__law_told : K.lookup a__law_told = some ⟨oc__law_told, od__law_told, .func (PySem.W.fnOf "_law_told" "_law_told" (defArgs s__law_told_) (defBody s__law_told_) (defScope s__law_told_) .none kV__law_told dc__law_told pm__law_told an__law_told cd__law_told ct__law_told), sl__law_told⟩)
    (co__law_told : PySem.W.codeIn K cd__law_told "_law_told" = true) (kp__law_told : PySem.W.keepIn K (.ref a__law_told) = true)
    {a__law_minutes_word : Addr} {od__law_minutes_word an__law_minutes_word : Option Addr} {sl__law_minutes_word : Array (Option Value)} {oc__law_minutes_word kV__law_minutes_word dc__law_minutes_word pm__law_minutes_word cd__law_minutes_word ct__law_minutes_word : Value}
    (ad__law_minutes_word : PySem.W.nsIn K mainGlobals "_law_minutes_word" = some (some (.ref a__law_minutes_word)))
    (lo__law_minutes_word : K.lookup a__law_minutes_word = some ⟨oc__law_minutes_word, od__law_minutes_word, .func (PySem.W.fnOf "_law_minutes_word" "_law_minutes_word" (defArgs s__law_minutes_word_) (defBody s__law_minutes_word_) (defScope s__law_minutes_word_) .none kV__law_minutes_word dc__law_minutes_word pm__law_minutes_word an__law_minutes_word cd__law_minutes_word ct__law_minutes_word), sl__law_minutes_word⟩)
    (co__law_minutes_word : PySem.W.codeIn K cd__law_minutes_word "_law_minutes_word" = true) (kp__law_minutes_word : PySem.W.keepIn K (.ref a__law_minutes_word) = true)
    {a__law_road_row : Addr} {od__law_road_row an__law_road_row : Option Addr} {sl__law_road_row : Array (Option Value)} {oc__law_road_row kV__law_road_row dc__law_road_row pm__law_road_row cd__law_road_row ct__law_road_row : Value}
    (ad__law_road_row : PySem.W.nsIn K mainGlobals "_law_road_row" = some (some (.ref a__law_road_row)))
    (lo__law_road_row : K.lookup a__law_road_row = some ⟨oc__law_road_row, od__law_road_row, .func (PySem.W.fnOf "_law_road_row" "_law_road_row" (defArgs s__law_road_row_) (defBody s__law_road_row_) (defScope s__law_road_row_) .none kV__law_road_row dc__law_road_row pm__law_road_row an__law_road_row cd__law_road_row ct__law_road_row), sl__law_road_row⟩)
    (co__law_road_row : PySem.W.codeIn K cd__law_road_row "_law_road_row" = true) (kp__law_road_row : PySem.W.keepIn K (.ref a__law_road_row) = true)
    {a__law_kinds : Addr} {od__law_kinds an__law_kinds : Option Addr} {sl__law_kinds : Array (Option Value)} {oc__law_kinds kV__law_kinds dc__law_kinds pm__law_kinds cd__law_kinds ct__law_kinds : Value}
    (ad__law_kinds : PySem.W.nsIn K mainGlobals "_law_kinds" = some (some (.ref a__law_kinds)))
    (lo__law_kinds : K.lookup a__law_kinds = some ⟨oc__law_kinds, od__law_kinds, .func (PySem.W.fnOf "_law_kinds" "_law_kinds" (defArgs s__law_kinds_) (defBody s__law_kinds_) (defScope s__law_kinds_) .none kV__law_kinds dc__law_kinds pm__law_kinds an__law_kinds cd__law_kinds ct__law_kinds), sl__law_kinds⟩)
    (co__law_kinds : PySem.W.codeIn K cd__law_kinds "_law_kinds" = true) (kp__law_kinds : PySem.W.keepIn K (.ref a__law_kinds) = true)
    {a__law_text : Addr} {od__law_text an__law_text : Option Addr} {sl__law_text : Array (Option Value)} {oc__law_text kV__law_text dc__law_text pm__law_text cd__law_text ct__law_text : Value}
    (ad__law_text : PySem.W.nsIn K mainGlobals "_law_text" = some (some (.ref a__law_text)))
    (lo__law_text : K.lookup a__law_text = some ⟨oc__law_text, od__law_text, .func (PySem.W.fnOf "_law_text" "_law_text" (defArgs s__law_text_) (defBody s__law_text_) (defScope s__law_text_) .none kV__law_text dc__law_text pm__law_text an__law_text cd__law_text ct__law_text), sl__law_text⟩)
    (co__law_text : PySem.W.codeIn K cd__law_text "_law_text" = true) (kp__law_text : PySem.W.keepIn K (.ref a__law_text) = true)
    {a_law : Addr} {od_law an_law : Option Addr} {sl_law : Array (Option Value)} {oc_law kV_law dc_law pm_law cd_law ct_law : Value}
    (ad_law : PySem.W.nsIn K mainGlobals "law" = some (some (.ref a_law)))
    (lo_law : K.lookup a_law = some ⟨oc_law, od_law, .func (PySem.W.fnOf "law" "law" (defArgs s_law_) (defBody s_law_) (defScope s_law_) .none kV_law dc_law pm_law an_law cd_law ct_law), sl_law⟩)
    (co_law : PySem.W.codeIn K cd_law "law" = true) (kp_law : PySem.W.keepIn K (.ref a_law) = true)
    {tk_LONGEST_NAME : Tok} (cn_LONGEST_NAME : PySem.W.nsIn K mainGlobals "LONGEST_NAME" = some (some (.int 8 tk_LONGEST_NAME)))
    {tk_LETTERS : Tok} (cn_LETTERS : PySem.W.nsIn K mainGlobals "LETTERS" = some (some (.str "abcdefghijklmnopqrstuvwxyz" tk_LETTERS)))
    {tk_NAME_SIGNS : Tok} (cn_NAME_SIGNS : PySem.W.nsIn K mainGlobals "NAME_SIGNS" = some (some (.str "abcdefghijklmnopqrstuvwxyz0123456789" tk_NAME_SIGNS)))
    {tk_FIGURES : Tok} (cn_FIGURES : PySem.W.nsIn K mainGlobals "FIGURES" = some (some (.str "0123456789" tk_FIGURES)))
    {tk_MOST_MINUTES : Tok} (cn_MOST_MINUTES : PySem.W.nsIn K mainGlobals "MOST_MINUTES" = some (some (.int 60 tk_MOST_MINUTES)))
    {tk_MOST_STANDS : Tok} (cn_MOST_STANDS : PySem.W.nsIn K mainGlobals "MOST_STANDS" = some (some (.int 5 tk_MOST_STANDS)))
    {tk_MOST_REACH : Tok} (cn_MOST_REACH : PySem.W.nsIn K mainGlobals "MOST_REACH" = some (some (.int 120 tk_MOST_REACH)))
    {tk_MOST_PLACES : Tok} (cn_MOST_PLACES : PySem.W.nsIn K mainGlobals "MOST_PLACES" = some (some (.int 10 tk_MOST_PLACES)))
    {tk_NONE_TEXT : Tok} (cn_NONE_TEXT : PySem.W.nsIn K mainGlobals "NONE_TEXT" = some (some (.str "-" tk_NONE_TEXT)))
    {tk_MOST_ROADS : Tok} (cn_MOST_ROADS : PySem.W.nsIn K mainGlobals "MOST_ROADS" = some (some (.int 18 tk_MOST_ROADS)))
    (no_isinstance : PySem.W.nsIn K mainGlobals "isinstance" = some none)
    (no_int : PySem.W.nsIn K mainGlobals "int" = some none)
    (no_bool : PySem.W.nsIn K mainGlobals "bool" = some none)
    (no_str : PySem.W.nsIn K mainGlobals "str" = some none)
    (no_len : PySem.W.nsIn K mainGlobals "len" = some none)
    (no_all : PySem.W.nsIn K mainGlobals "all" = some none)
    (no_tuple : PySem.W.nsIn K mainGlobals "tuple" = some none)
    (no_enumerate : PySem.W.nsIn K mainGlobals "enumerate" = some none)
    (no_abs : PySem.W.nsIn K mainGlobals "abs" = some none)
    (no_range : PySem.W.nsIn K mainGlobals "range" = some none)
    (no_ValueError : PySem.W.nsIn K mainGlobals "ValueError" = some none)
    (no_max : PySem.W.nsIn K mainGlobals "max" = some none)
    (no_min : PySem.W.nsIn K mainGlobals "min" = some none)
    (no_repr : PySem.W.nsIn K mainGlobals "repr" = some none)
    : ∃ (fd : FuncData) (ts : List (Str × Addr × Addr)), (∀ t ∈ ts, TabDef q K mg t) ∧ (∀ (s : Shared) (u : Value), BindsTo s fd ⟨[u], []⟩ [("script", u)]) ∧ ∀ b : Heap, K.In b → b.Ns mainGlobals mg → (∀ t ∈ ts, GxR.TabB b mg t.2.1 t.2.2) → Keeps P w K mg b CX0 10 fa fd ["script"] (spLaw K (ts.map fun t => t.2.2)) := by
  have e := hfa.symm.trans (PySem.W.mg_of X G ad_law)
  cases e
  have f_NoText____init__ := fun_mk (st := s_NoText____init___) lo_NoText____init__ co_NoText____init__ kp_NoText____init__
  have F_NoText____init__ : FnM K "__init__" "NoText.__init__" s_NoText____init___ _ _ ["self", "row"] := ⟨f_NoText____init__, f_NoText____init__.binds (ps := ["self", "row"]) fun _ _ _ _ _ _ us hl => match us, hl with | [_, _], _ => rfl⟩
  have f_is_whole := fun_mk (st := s_is_whole_) lo_is_whole co_is_whole kp_is_whole
  have F_is_whole : Fn K mg "is_whole" s_is_whole_ _ _ ["thing"] := ⟨f_is_whole, PySem.W.mg_of X G ad_is_whole, f_is_whole.binds (ps := ["thing"]) fun _ _ _ _ _ _ us hl => match us, hl with | [_], _ => rfl⟩
  have f_is_within := fun_mk (st := s_is_within_) lo_is_within co_is_within kp_is_within
  have F_is_within : Fn K mg "is_within" s_is_within_ _ _ ["thing", "least", "most"] := ⟨f_is_within, PySem.W.mg_of X G ad_is_within, f_is_within.binds (ps := ["thing", "least", "most"]) fun _ _ _ _ _ _ us hl => match us, hl with | [_, _, _], _ => rfl⟩
  have f_is_name := fun_mk (st := s_is_name_) lo_is_name co_is_name kp_is_name
  have F_is_name : Fn K mg "is_name" s_is_name_ _ _ ["thing"] := ⟨f_is_name, PySem.W.mg_of X G ad_is_name, f_is_name.binds (ps := ["thing"]) fun _ _ _ _ _ _ us hl => match us, hl with | [_], _ => rfl⟩
  have f_number_by := fun_mk (st := s_number_by_) lo_number_by co_number_by kp_number_by
  have F_number_by : Fn K mg "number_by" s_number_by_ _ _ ["text", "most"] := ⟨f_number_by, PySem.W.mg_of X G ad_number_by, f_number_by.binds (ps := ["text", "most"]) fun _ _ _ _ _ _ us hl => match us, hl with | [_, _], _ => rfl⟩
  have f__is_drive := fun_mk (st := s__is_drive_) lo__is_drive co__is_drive kp__is_drive
  have F__is_drive : Fn K mg "_is_drive" s__is_drive_ _ _ ["thing"] := ⟨f__is_drive, PySem.W.mg_of X G ad__is_drive, f__is_drive.binds (ps := ["thing"]) fun _ _ _ _ _ _ us hl => match us, hl with | [_], _ => rfl⟩
  have f_is_road := fun_mk (st := s_is_road_) lo_is_road co_is_road kp_is_road
  have F_is_road : Fn K mg "is_road" s_is_road_ _ _ ["places", "thing"] := ⟨f_is_road, PySem.W.mg_of X G ad_is_road, f_is_road.binds (ps := ["places", "thing"]) fun _ _ _ _ _ _ us hl => match us, hl with | [_, _], _ => rfl⟩
  have f__taken_stand := fun_mk (st := s__taken_stand_) lo__taken_stand co__taken_stand kp__taken_stand
  have F__taken_stand : Fn K mg "_taken_stand" s__taken_stand_ _ _ ["places", "stands", "word"] := ⟨f__taken_stand, PySem.W.mg_of X G ad__taken_stand, f__taken_stand.binds (ps := ["places", "stands", "word"]) fun _ _ _ _ _ _ us hl => match us, hl with | [_, _, _], _ => rfl⟩
  have f__taken_reach := fun_mk (st := s__taken_reach_) lo__taken_reach co__taken_reach kp__taken_reach
  have F__taken_reach : Fn K mg "_taken_reach" s__taken_reach_ _ _ ["reaches", "word"] := ⟨f__taken_reach, PySem.W.mg_of X G ad__taken_reach, f__taken_reach.binds (ps := ["reaches", "word"]) fun _ _ _ _ _ _ us hl => match us, hl with | [_, _], _ => rfl⟩
  have f__taken_place := fun_mk (st := s__taken_place_) lo__taken_place co__taken_place kp__taken_place
  have F__taken_place : Fn K mg "_taken_place" s__taken_place_ _ _ ["places", "word"] := ⟨f__taken_place, PySem.W.mg_of X G ad__taken_place, f__taken_place.binds (ps := ["places", "word"]) fun _ _ _ _ _ _ us hl => match us, hl with | [_, _], _ => rfl⟩
  have f__drive_by := fun_mk (st := s__drive_by_) lo__drive_by co__drive_by kp__drive_by
  have F__drive_by : Fn K mg "_drive_by" s__drive_by_ _ _ ["word"] := ⟨f__drive_by, PySem.W.mg_of X G ad__drive_by, f__drive_by.binds (ps := ["word"]) fun _ _ _ _ _ _ us hl => match us, hl with | [_], _ => rfl⟩
  have f__taken_road := fun_mk (st := s__taken_road_) lo__taken_road co__taken_road kp__taken_road
  have F__taken_road : Fn K mg "_taken_road" s__taken_road_ _ _ ["places", "roads", "words"] := ⟨f__taken_road, PySem.W.mg_of X G ad__taken_road, f__taken_road.binds (ps := ["places", "roads", "words"]) fun _ _ _ _ _ _ us hl => match us, hl with | [_, _, _], _ => rfl⟩
  have f__taken := fun_mk (st := s__taken_) lo__taken co__taken kp__taken
  have F__taken : Fn K mg "_taken" s__taken_ _ _ ["places", "roads", "stands", "reaches", "words"] := ⟨f__taken, PySem.W.mg_of X G ad__taken, f__taken.binds (ps := ["places", "roads", "stands", "reaches", "words"]) fun _ _ _ _ _ _ us hl => match us, hl with | [_, _, _, _, _], _ => rfl⟩
  have f_town_by := fun_mk (st := s_town_by_) lo_town_by co_town_by kp_town_by
  have F_town_by : Fn K mg "town_by" s_town_by_ _ _ ["text"] := ⟨f_town_by, PySem.W.mg_of X G ad_town_by, f_town_by.binds (ps := ["text"]) fun _ _ _ _ _ _ us hl => match us, hl with | [_], _ => rfl⟩
  have f__law_pen := fun_mk (st := s__law_pen_) lo__law_pen co__law_pen kp__law_pen
  have F__law_pen : Fn K mg "_law_pen" s__law_pen_ _ _ ["script", "k"] := ⟨f__law_pen, PySem.W.mg_of X G ad__law_pen, f__law_pen.binds (ps := ["script", "k"]) fun _ _ _ _ _ _ us hl => match us, hl with | [_, _], _ => rfl⟩
  have f__law_draw := fun_mk (st := s__law_draw_) lo__law_draw co__law_draw kp__law_draw
  have F__law_draw : Fn K mg "_law_draw" s__law_draw_ _ _ ["pen", "base"] := ⟨f__law_draw, PySem.W.mg_of X G ad__law_draw, f__law_draw.binds (ps := ["pen", "base"]) fun _ _ _ _ _ _ us hl => match us, hl with | [_, _], _ => rfl⟩
  have f__law_word := fun_mk (st := s__law_word_) lo__law_word co__law_word kp__law_word
  have F__law_word : Fn K mg "_law_word" s__law_word_ _ _ ["pen", "size"] := ⟨f__law_word, PySem.W.mg_of X G ad__law_word, f__law_word.binds (ps := ["pen", "size"]) fun _ _ _ _ _ _ us hl => match us, hl with | [_, _], _ => rfl⟩
  have f__law_names := fun_mk (st := s__law_names_) lo__law_names co__law_names kp__law_names
  have F__law_names : Fn K mg "_law_names" s__law_names_ _ _ ["pen", "many"] := ⟨f__law_names, PySem.W.mg_of X G ad__law_names, f__law_names.binds (ps := ["pen", "many"]) fun _ _ _ _ _ _ us hl => match us, hl with | [_, _], _ => rfl⟩
  have f__law_is_name := fun_mk (st := s__law_is_name_) lo__law_is_name co__law_is_name kp__law_is_name
  have F__law_is_name : Fn K mg "_law_is_name" s__law_is_name_ _ _ ["thing"] := ⟨f__law_is_name, PySem.W.mg_of X G ad__law_is_name, f__law_is_name.binds (ps := ["thing"]) fun _ _ _ _ _ _ us hl => match us, hl with | [_], _ => rfl⟩
  have f__law_whole := fun_mk (st := s__law_whole_) lo__law_whole co__law_whole kp__law_whole
  have F__law_whole : Fn K mg "_law_whole" s__law_whole_ _ _ ["thing", "least", "most"] := ⟨f__law_whole, PySem.W.mg_of X G ad__law_whole, f__law_whole.binds (ps := ["thing", "least", "most"]) fun _ _ _ _ _ _ us hl => match us, hl with | [_, _, _], _ => rfl⟩
  have f__law_is_way := fun_mk (st := s__law_is_way_) lo__law_is_way co__law_is_way kp__law_is_way
  have F__law_is_way : Fn K mg "_law_is_way" s__law_is_way_ _ _ ["thing"] := ⟨f__law_is_way, PySem.W.mg_of X G ad__law_is_way, f__law_is_way.binds (ps := ["thing"]) fun _ _ _ _ _ _ us hl => match us, hl with | [_], _ => rfl⟩
  have f__law_is_road := fun_mk (st := s__law_is_road_) lo__law_is_road co__law_is_road kp__law_is_road
  have F__law_is_road : Fn K mg "_law_is_road" s__law_is_road_ _ _ ["places", "thing"] := ⟨f__law_is_road, PySem.W.mg_of X G ad__law_is_road, f__law_is_road.binds (ps := ["places", "thing"]) fun _ _ _ _ _ _ us hl => match us, hl with | [_, _], _ => rfl⟩
  have f__law_marks := fun_mk (st := s__law_marks_) lo__law_marks co__law_marks kp__law_marks
  have F__law_marks : Fn K mg "_law_marks" s__law_marks_ _ _ ["error"] := ⟨f__law_marks, PySem.W.mg_of X G ad__law_marks, f__law_marks.binds (ps := ["error"]) fun _ _ _ _ _ _ us hl => match us, hl with | [_], _ => rfl⟩
  have f__law_number := fun_mk (st := s__law_number_) lo__law_number co__law_number kp__law_number
  have F__law_number : Fn K mg "_law_number" s__law_number_ _ _ ["word"] := ⟨f__law_number, PySem.W.mg_of X G ad__law_number, f__law_number.binds (ps := ["word"]) fun _ _ _ _ _ _ us hl => match us, hl with | [_], _ => rfl⟩
  have f__law_way_in := fun_mk (st := s__law_way_in_) lo__law_way_in co__law_way_in kp__law_way_in
  have F__law_way_in : Fn K mg "_law_way_in" s__law_way_in_ _ _ ["word"] := ⟨f__law_way_in, PySem.W.mg_of X G ad__law_way_in, f__law_way_in.binds (ps := ["word"]) fun _ _ _ _ _ _ us hl => match us, hl with | [_], _ => rfl⟩
  have f__law_can_stand := fun_mk (st := s__law_can_stand_) lo__law_can_stand co__law_can_stand kp__law_can_stand
  have F__law_can_stand : Fn K mg "_law_can_stand" s__law_can_stand_ _ _ ["there", "row"] := ⟨f__law_can_stand, PySem.W.mg_of X G ad__law_can_stand, f__law_can_stand.binds (ps := ["there", "row"]) fun _ _ _ _ _ _ us hl => match us, hl with | [_, _], _ => rfl⟩
  have f__law_read := fun_mk (st := s__law_read_) lo__law_read co__law_read kp__law_read
  have F__law_read : Fn K mg "_law_read" s__law_read_ _ _ ["thing"] := ⟨f__law_read, PySem.W.mg_of X G ad__law_read, f__law_read.binds (ps := ["thing"]) fun _ _ _ _ _ _ us hl => match us, hl with | [_], _ => rfl⟩
  have f__law_told := fun_mk (st := s__law_told_) lo__law_told co__law_told kp__law_told
  have F__law_told : Fn K mg "_law_told" s__law_told_ _ _ ["thing"] := ⟨f__law_told, PySem.W.mg_of X G ad__law_told, f__law_told.binds (ps := ["thing"]) fun _ _ _ _ _ _ us hl => match us, hl with | [_], _ => rfl⟩
  have f__law_minutes_word := fun_mk (st := s__law_minutes_word_) lo__law_minutes_word co__law_minutes_word kp__law_minutes_word
  have F__law_minutes_word : Fn K mg "_law_minutes_word" s__law_minutes_word_ _ _ ["pen", "wrong"] := ⟨f__law_minutes_word, PySem.W.mg_of X G ad__law_minutes_word, f__law_minutes_word.binds (ps := ["pen", "wrong"]) fun _ _ _ _ _ _ us hl => match us, hl with | [_, _], _ => rfl⟩
  have f__law_road_row := fun_mk (st := s__law_road_row_) lo__law_road_row co__law_road_row kp__law_road_row
  have F__law_road_row : Fn K mg "_law_road_row" s__law_road_row_ _ _ ["pen", "names", "wrong"] := ⟨f__law_road_row, PySem.W.mg_of X G ad__law_road_row, f__law_road_row.binds (ps := ["pen", "names", "wrong"]) fun _ _ _ _ _ _ us hl => match us, hl with | [_, _, _], _ => rfl⟩
  have f__law_kinds := fun_mk (st := s__law_kinds_) lo__law_kinds co__law_kinds kp__law_kinds
  have F__law_kinds : Fn K mg "_law_kinds" s__law_kinds_ _ _ ["pen"] := ⟨f__law_kinds, PySem.W.mg_of X G ad__law_kinds, f__law_kinds.binds (ps := ["pen"]) fun _ _ _ _ _ _ us hl => match us, hl with | [_], _ => rfl⟩
  have f__law_text := fun_mk (st := s__law_text_) lo__law_text co__law_text kp__law_text
  have F__law_text : Fn K mg "_law_text" s__law_text_ _ _ ["pen"] := ⟨f__law_text, PySem.W.mg_of X G ad__law_text, f__law_text.binds (ps := ["pen"]) fun _ _ _ _ _ _ us hl => match us, hl with | [_], _ => rfl⟩
  have f_law := fun_mk (st := s_law_) lo_law co_law kp_law
  have F_law : Fn K mg "law" s_law_ _ _ ["script"] := ⟨f_law, PySem.W.mg_of X G ad_law, f_law.binds (ps := ["script"]) fun _ _ _ _ _ _ us hl => match us, hl with | [_], _ => rfl⟩
  refine ⟨PySem.W.fnOf "law" "law" (defArgs s_law_) (defBody s_law_) (defScope s_law_) .none kV_law dc_law pm_law an_law cd_law ct_law, [("is_name", tc_is_name, P_is_name), ("number_by", tc_number_by, P_number_by)], ?_, fun s v => .of_eq rfl, fun b _ _ TBs => ?_⟩
  · intro t ht
    simp only [List.mem_cons, List.not_mem_nil, or_false] at ht
    rcases ht with rfl | rfl
    · exact ⟨re_is_name, ⟨_, _, _, PySem.W.mg_of X G ad_is_name, lo_is_name, rfl, rfl⟩, tb_is_name⟩
    · exact ⟨re_number_by, ⟨_, _, _, PySem.W.mg_of X G ad_number_by, lo_number_by, rfl, rfl⟩, tb_number_by⟩
  have TB_is_name := TBs ("is_name", tc_is_name, P_is_name) (by simp)
  have TB_number_by := TBs ("number_by", tc_number_by, P_number_by) (by simp)
  have T_NoText : OexC K c_NoText := ⟨⟨_, _, _, _, _, _, _, _, _, _, _, _, _, _, _, oc_NoText, by first | rfl | decide⟩, sa_NoText, ex_NoText, ty_NoText, kc_NoText⟩
  have Fi_NoText := dv_NoText____init__ (P := P) (w := w) (b := b) (mg := mg) F_NoText____init__ ⟨wga, wrd, wfi⟩ (PySem.W.mg_of X G ad_WagonError) T_NoText na_NoText_row
  have k_is_whole := dv_is_whole (P := P) (w := w) (b := b) (mg := mg) (sp := spWholeI) F_is_whole (PySem.W.mg_none_of X G no_isinstance) (PySem.W.mg_none_of X G no_int) (PySem.W.mg_none_of X G no_bool) (by intro vs H Q E h; first | (obtain ⟨_, rfl, _⟩ := h; rfl; done) | (obtain ⟨_, _, rfl, _⟩ := h; rfl; done) | (obtain ⟨_, _, _, rfl, _⟩ := h; rfl; done) | (obtain ⟨_, _, _, _, rfl, _⟩ := h; rfl; done) | (obtain ⟨_, _, _, _, _, rfl, _⟩ := h; rfl; done) | (obtain ⟨_, _, _, _, _, _, rfl, _⟩ := h; rfl; done) | (obtain ⟨_, _, _, _, _, _, _, rfl, _⟩ := h; rfl; done) | (obtain ⟨_, _, _, _, _, _, _, _, rfl, _⟩ := h; rfl; done) | (obtain ⟨_, _, _, _, _, _, _, _, _, rfl, _⟩ := h; rfl; done) | (obtain ⟨_, _, _, _, _, _, _, _, _, _, rfl, _⟩ := h; rfl; done) | (obtain ⟨_, _, _, _, _, _, _, _, _, _, _, rfl, _⟩ := h; rfl; done) | (obtain ⟨_, _, _, _, _, _, _, _, _, _, _, _, rfl, _⟩ := h; rfl; done) | (obtain ⟨_, _, _, _, _, _, _, _, _, _, _, _, _, rfl, _⟩ := h; rfl; done) | (obtain ⟨_, _, _, _, _, _, _, _, _, _, _, _, _, _, rfl, _⟩ := h; rfl; done) | (rcases h with h | h <;> first | (obtain ⟨_, rfl, _⟩ := h; rfl; done) | (obtain ⟨_, _, rfl, _⟩ := h; rfl; done) | (obtain ⟨_, _, _, rfl, _⟩ := h; rfl; done) | (obtain ⟨_, _, _, _, rfl, _⟩ := h; rfl; done) | (obtain ⟨_, _, _, _, _, rfl, _⟩ := h; rfl; done) | (obtain ⟨_, _, _, _, _, _, rfl, _⟩ := h; rfl; done) | (obtain ⟨_, _, _, _, _, _, _, rfl, _⟩ := h; rfl; done) | (obtain ⟨_, _, _, _, _, _, _, _, rfl, _⟩ := h; rfl; done) | (obtain ⟨_, _, _, _, _, _, _, _, _, rfl, _⟩ := h; rfl; done) | (obtain ⟨_, _, _, _, _, _, _, _, _, _, rfl, _⟩ := h; rfl; done) | (obtain ⟨_, _, _, _, _, _, _, _, _, _, _, rfl, _⟩ := h; rfl; done) | (obtain ⟨_, _, _, _, _, _, _, _, _, _, _, _, rfl, _⟩ := h; rfl; done) | (obtain ⟨_, _, _, _, _, _, _, _, _, _, _, _, _, rfl, _⟩ := h; rfl; done) | (obtain ⟨_, _, _, _, _, _, _, _, _, _, _, _, _, _, rfl, _⟩ := h; rfl; done))) (rd_wholeI K)
  have k_is_within := dv_is_within (P := P) (w := w) (b := b) (mg := mg) (sp := spWithinI) F_is_within F_is_whole k_is_whole (by intro vs H Q E h; first | (obtain ⟨_, rfl, _⟩ := h; rfl; done) | (obtain ⟨_, _, rfl, _⟩ := h; rfl; done) | (obtain ⟨_, _, _, rfl, _⟩ := h; rfl; done) | (obtain ⟨_, _, _, _, rfl, _⟩ := h; rfl; done) | (obtain ⟨_, _, _, _, _, rfl, _⟩ := h; rfl; done) | (obtain ⟨_, _, _, _, _, _, rfl, _⟩ := h; rfl; done) | (obtain ⟨_, _, _, _, _, _, _, rfl, _⟩ := h; rfl; done) | (obtain ⟨_, _, _, _, _, _, _, _, rfl, _⟩ := h; rfl; done) | (obtain ⟨_, _, _, _, _, _, _, _, _, rfl, _⟩ := h; rfl; done) | (obtain ⟨_, _, _, _, _, _, _, _, _, _, rfl, _⟩ := h; rfl; done) | (obtain ⟨_, _, _, _, _, _, _, _, _, _, _, rfl, _⟩ := h; rfl; done) | (obtain ⟨_, _, _, _, _, _, _, _, _, _, _, _, rfl, _⟩ := h; rfl; done) | (obtain ⟨_, _, _, _, _, _, _, _, _, _, _, _, _, rfl, _⟩ := h; rfl; done) | (obtain ⟨_, _, _, _, _, _, _, _, _, _, _, _, _, _, rfl, _⟩ := h; rfl; done) | (rcases h with h | h <;> first | (obtain ⟨_, rfl, _⟩ := h; rfl; done) | (obtain ⟨_, _, rfl, _⟩ := h; rfl; done) | (obtain ⟨_, _, _, rfl, _⟩ := h; rfl; done) | (obtain ⟨_, _, _, _, rfl, _⟩ := h; rfl; done) | (obtain ⟨_, _, _, _, _, rfl, _⟩ := h; rfl; done) | (obtain ⟨_, _, _, _, _, _, rfl, _⟩ := h; rfl; done) | (obtain ⟨_, _, _, _, _, _, _, rfl, _⟩ := h; rfl; done) | (obtain ⟨_, _, _, _, _, _, _, _, rfl, _⟩ := h; rfl; done) | (obtain ⟨_, _, _, _, _, _, _, _, _, rfl, _⟩ := h; rfl; done) | (obtain ⟨_, _, _, _, _, _, _, _, _, _, rfl, _⟩ := h; rfl; done) | (obtain ⟨_, _, _, _, _, _, _, _, _, _, _, rfl, _⟩ := h; rfl; done) | (obtain ⟨_, _, _, _, _, _, _, _, _, _, _, _, rfl, _⟩ := h; rfl; done) | (obtain ⟨_, _, _, _, _, _, _, _, _, _, _, _, _, rfl, _⟩ := h; rfl; done) | (obtain ⟨_, _, _, _, _, _, _, _, _, _, _, _, _, _, rfl, _⟩ := h; rfl; done))) (rd_withinI K)
  have k_is_name := dv_is_name (P := P) (w := w) (b := b) (mg := mg) (sp := spIsName K [P_is_name, P_number_by] P_is_name) F_is_name rfl TB_is_name (PySem.W.mg_none_of X G no_isinstance) (PySem.W.mg_none_of X G no_str) (PySem.W.mg_none_of X G no_len) (PySem.W.mg_of X G cn_LONGEST_NAME) (PySem.W.mg_of X G cn_LETTERS) (PySem.W.mg_none_of X G no_all) (PySem.W.mg_of X G cn_NAME_SIGNS) (by intro vs H Q E h; first | (obtain ⟨_, rfl, _⟩ := h; rfl; done) | (obtain ⟨_, _, rfl, _⟩ := h; rfl; done) | (obtain ⟨_, _, _, rfl, _⟩ := h; rfl; done) | (obtain ⟨_, _, _, _, rfl, _⟩ := h; rfl; done) | (obtain ⟨_, _, _, _, _, rfl, _⟩ := h; rfl; done) | (obtain ⟨_, _, _, _, _, _, rfl, _⟩ := h; rfl; done) | (obtain ⟨_, _, _, _, _, _, _, rfl, _⟩ := h; rfl; done) | (obtain ⟨_, _, _, _, _, _, _, _, rfl, _⟩ := h; rfl; done) | (obtain ⟨_, _, _, _, _, _, _, _, _, rfl, _⟩ := h; rfl; done) | (obtain ⟨_, _, _, _, _, _, _, _, _, _, rfl, _⟩ := h; rfl; done) | (obtain ⟨_, _, _, _, _, _, _, _, _, _, _, rfl, _⟩ := h; rfl; done) | (obtain ⟨_, _, _, _, _, _, _, _, _, _, _, _, rfl, _⟩ := h; rfl; done) | (obtain ⟨_, _, _, _, _, _, _, _, _, _, _, _, _, rfl, _⟩ := h; rfl; done) | (obtain ⟨_, _, _, _, _, _, _, _, _, _, _, _, _, _, rfl, _⟩ := h; rfl; done) | (rcases h with h | h <;> first | (obtain ⟨_, rfl, _⟩ := h; rfl; done) | (obtain ⟨_, _, rfl, _⟩ := h; rfl; done) | (obtain ⟨_, _, _, rfl, _⟩ := h; rfl; done) | (obtain ⟨_, _, _, _, rfl, _⟩ := h; rfl; done) | (obtain ⟨_, _, _, _, _, rfl, _⟩ := h; rfl; done) | (obtain ⟨_, _, _, _, _, _, rfl, _⟩ := h; rfl; done) | (obtain ⟨_, _, _, _, _, _, _, rfl, _⟩ := h; rfl; done) | (obtain ⟨_, _, _, _, _, _, _, _, rfl, _⟩ := h; rfl; done) | (obtain ⟨_, _, _, _, _, _, _, _, _, rfl, _⟩ := h; rfl; done) | (obtain ⟨_, _, _, _, _, _, _, _, _, _, rfl, _⟩ := h; rfl; done) | (obtain ⟨_, _, _, _, _, _, _, _, _, _, _, rfl, _⟩ := h; rfl; done) | (obtain ⟨_, _, _, _, _, _, _, _, _, _, _, _, rfl, _⟩ := h; rfl; done) | (obtain ⟨_, _, _, _, _, _, _, _, _, _, _, _, _, rfl, _⟩ := h; rfl; done) | (obtain ⟨_, _, _, _, _, _, _, _, _, _, _, _, _, _, rfl, _⟩ := h; rfl; done))) (rd_isname K (L := [P_is_name, P_number_by]) (P := P_is_name))
  have k_number_by := dv_number_by (P := P) (w := w) (b := b) (mg := mg) (sp := spNumG K [P_is_name, P_number_by] P_number_by) F_number_by rfl TB_number_by (PySem.W.mg_none_of X G no_len) (PySem.W.mg_none_of X G no_str) (PySem.W.mg_none_of X G no_all) (PySem.W.mg_of X G cn_FIGURES) (PySem.W.mg_none_of X G no_int) (by intro vs H Q E h; first | (obtain ⟨_, rfl, _⟩ := h; rfl; done) | (obtain ⟨_, _, rfl, _⟩ := h; rfl; done) | (obtain ⟨_, _, _, rfl, _⟩ := h; rfl; done) | (obtain ⟨_, _, _, _, rfl, _⟩ := h; rfl; done) | (obtain ⟨_, _, _, _, _, rfl, _⟩ := h; rfl; done) | (obtain ⟨_, _, _, _, _, _, rfl, _⟩ := h; rfl; done) | (obtain ⟨_, _, _, _, _, _, _, rfl, _⟩ := h; rfl; done) | (obtain ⟨_, _, _, _, _, _, _, _, rfl, _⟩ := h; rfl; done) | (obtain ⟨_, _, _, _, _, _, _, _, _, rfl, _⟩ := h; rfl; done) | (obtain ⟨_, _, _, _, _, _, _, _, _, _, rfl, _⟩ := h; rfl; done) | (obtain ⟨_, _, _, _, _, _, _, _, _, _, _, rfl, _⟩ := h; rfl; done) | (obtain ⟨_, _, _, _, _, _, _, _, _, _, _, _, rfl, _⟩ := h; rfl; done) | (obtain ⟨_, _, _, _, _, _, _, _, _, _, _, _, _, rfl, _⟩ := h; rfl; done) | (obtain ⟨_, _, _, _, _, _, _, _, _, _, _, _, _, _, rfl, _⟩ := h; rfl; done) | (rcases h with h | h <;> first | (obtain ⟨_, rfl, _⟩ := h; rfl; done) | (obtain ⟨_, _, rfl, _⟩ := h; rfl; done) | (obtain ⟨_, _, _, rfl, _⟩ := h; rfl; done) | (obtain ⟨_, _, _, _, rfl, _⟩ := h; rfl; done) | (obtain ⟨_, _, _, _, _, rfl, _⟩ := h; rfl; done) | (obtain ⟨_, _, _, _, _, _, rfl, _⟩ := h; rfl; done) | (obtain ⟨_, _, _, _, _, _, _, rfl, _⟩ := h; rfl; done) | (obtain ⟨_, _, _, _, _, _, _, _, rfl, _⟩ := h; rfl; done) | (obtain ⟨_, _, _, _, _, _, _, _, _, rfl, _⟩ := h; rfl; done) | (obtain ⟨_, _, _, _, _, _, _, _, _, _, rfl, _⟩ := h; rfl; done) | (obtain ⟨_, _, _, _, _, _, _, _, _, _, _, rfl, _⟩ := h; rfl; done) | (obtain ⟨_, _, _, _, _, _, _, _, _, _, _, _, rfl, _⟩ := h; rfl; done) | (obtain ⟨_, _, _, _, _, _, _, _, _, _, _, _, _, rfl, _⟩ := h; rfl; done) | (obtain ⟨_, _, _, _, _, _, _, _, _, _, _, _, _, _, rfl, _⟩ := h; rfl; done))) (rd_numG K (L := [P_is_name, P_number_by]) (P := P_number_by))
  have k__is_drive := dv__is_drive (P := P) (w := w) (b := b) (mg := mg) (sp := spDrv) F__is_drive F_is_within k_is_within (PySem.W.mg_of X G cn_MOST_MINUTES) (by intro vs H Q E h; first | (obtain ⟨_, rfl, _⟩ := h; rfl; done) | (obtain ⟨_, _, rfl, _⟩ := h; rfl; done) | (obtain ⟨_, _, _, rfl, _⟩ := h; rfl; done) | (obtain ⟨_, _, _, _, rfl, _⟩ := h; rfl; done) | (obtain ⟨_, _, _, _, _, rfl, _⟩ := h; rfl; done) | (obtain ⟨_, _, _, _, _, _, rfl, _⟩ := h; rfl; done) | (obtain ⟨_, _, _, _, _, _, _, rfl, _⟩ := h; rfl; done) | (obtain ⟨_, _, _, _, _, _, _, _, rfl, _⟩ := h; rfl; done) | (obtain ⟨_, _, _, _, _, _, _, _, _, rfl, _⟩ := h; rfl; done) | (obtain ⟨_, _, _, _, _, _, _, _, _, _, rfl, _⟩ := h; rfl; done) | (obtain ⟨_, _, _, _, _, _, _, _, _, _, _, rfl, _⟩ := h; rfl; done) | (obtain ⟨_, _, _, _, _, _, _, _, _, _, _, _, rfl, _⟩ := h; rfl; done) | (obtain ⟨_, _, _, _, _, _, _, _, _, _, _, _, _, rfl, _⟩ := h; rfl; done) | (obtain ⟨_, _, _, _, _, _, _, _, _, _, _, _, _, _, rfl, _⟩ := h; rfl; done) | (rcases h with h | h <;> first | (obtain ⟨_, rfl, _⟩ := h; rfl; done) | (obtain ⟨_, _, rfl, _⟩ := h; rfl; done) | (obtain ⟨_, _, _, rfl, _⟩ := h; rfl; done) | (obtain ⟨_, _, _, _, rfl, _⟩ := h; rfl; done) | (obtain ⟨_, _, _, _, _, rfl, _⟩ := h; rfl; done) | (obtain ⟨_, _, _, _, _, _, rfl, _⟩ := h; rfl; done) | (obtain ⟨_, _, _, _, _, _, _, rfl, _⟩ := h; rfl; done) | (obtain ⟨_, _, _, _, _, _, _, _, rfl, _⟩ := h; rfl; done) | (obtain ⟨_, _, _, _, _, _, _, _, _, rfl, _⟩ := h; rfl; done) | (obtain ⟨_, _, _, _, _, _, _, _, _, _, rfl, _⟩ := h; rfl; done) | (obtain ⟨_, _, _, _, _, _, _, _, _, _, _, rfl, _⟩ := h; rfl; done) | (obtain ⟨_, _, _, _, _, _, _, _, _, _, _, _, rfl, _⟩ := h; rfl; done) | (obtain ⟨_, _, _, _, _, _, _, _, _, _, _, _, _, rfl, _⟩ := h; rfl; done) | (obtain ⟨_, _, _, _, _, _, _, _, _, _, _, _, _, _, rfl, _⟩ := h; rfl; done))) (rd_isDrive K)
  have k_is_road := dv_is_road (P := P) (w := w) (b := b) (mg := mg) (sp := spRoadG) F_is_road (PySem.W.mg_none_of X G no_isinstance) (PySem.W.mg_none_of X G no_tuple) (PySem.W.mg_none_of X G no_len) F__is_drive k__is_drive (by intro vs H Q E h; first | (obtain ⟨_, rfl, _⟩ := h; rfl; done) | (obtain ⟨_, _, rfl, _⟩ := h; rfl; done) | (obtain ⟨_, _, _, rfl, _⟩ := h; rfl; done) | (obtain ⟨_, _, _, _, rfl, _⟩ := h; rfl; done) | (obtain ⟨_, _, _, _, _, rfl, _⟩ := h; rfl; done) | (obtain ⟨_, _, _, _, _, _, rfl, _⟩ := h; rfl; done) | (obtain ⟨_, _, _, _, _, _, _, rfl, _⟩ := h; rfl; done) | (obtain ⟨_, _, _, _, _, _, _, _, rfl, _⟩ := h; rfl; done) | (obtain ⟨_, _, _, _, _, _, _, _, _, rfl, _⟩ := h; rfl; done) | (obtain ⟨_, _, _, _, _, _, _, _, _, _, rfl, _⟩ := h; rfl; done) | (obtain ⟨_, _, _, _, _, _, _, _, _, _, _, rfl, _⟩ := h; rfl; done) | (obtain ⟨_, _, _, _, _, _, _, _, _, _, _, _, rfl, _⟩ := h; rfl; done) | (obtain ⟨_, _, _, _, _, _, _, _, _, _, _, _, _, rfl, _⟩ := h; rfl; done) | (obtain ⟨_, _, _, _, _, _, _, _, _, _, _, _, _, _, rfl, _⟩ := h; rfl; done) | (rcases h with h | h <;> first | (obtain ⟨_, rfl, _⟩ := h; rfl; done) | (obtain ⟨_, _, rfl, _⟩ := h; rfl; done) | (obtain ⟨_, _, _, rfl, _⟩ := h; rfl; done) | (obtain ⟨_, _, _, _, rfl, _⟩ := h; rfl; done) | (obtain ⟨_, _, _, _, _, rfl, _⟩ := h; rfl; done) | (obtain ⟨_, _, _, _, _, _, rfl, _⟩ := h; rfl; done) | (obtain ⟨_, _, _, _, _, _, _, rfl, _⟩ := h; rfl; done) | (obtain ⟨_, _, _, _, _, _, _, _, rfl, _⟩ := h; rfl; done) | (obtain ⟨_, _, _, _, _, _, _, _, _, rfl, _⟩ := h; rfl; done) | (obtain ⟨_, _, _, _, _, _, _, _, _, _, rfl, _⟩ := h; rfl; done) | (obtain ⟨_, _, _, _, _, _, _, _, _, _, _, rfl, _⟩ := h; rfl; done) | (obtain ⟨_, _, _, _, _, _, _, _, _, _, _, _, rfl, _⟩ := h; rfl; done) | (obtain ⟨_, _, _, _, _, _, _, _, _, _, _, _, _, rfl, _⟩ := h; rfl; done) | (obtain ⟨_, _, _, _, _, _, _, _, _, _, _, _, _, _, rfl, _⟩ := h; rfl; done))) (rd_roadG K)
  have k__taken_stand := dv__taken_stand (P := P) (w := w) (b := b) (mg := mg) (sp := spStandG) F__taken_stand (PySem.W.mg_none_of X G no_len) (PySem.W.mg_of X G cn_MOST_STANDS) (by intro vs H Q E h; first | (obtain ⟨_, rfl, _⟩ := h; rfl; done) | (obtain ⟨_, _, rfl, _⟩ := h; rfl; done) | (obtain ⟨_, _, _, rfl, _⟩ := h; rfl; done) | (obtain ⟨_, _, _, _, rfl, _⟩ := h; rfl; done) | (obtain ⟨_, _, _, _, _, rfl, _⟩ := h; rfl; done) | (obtain ⟨_, _, _, _, _, _, rfl, _⟩ := h; rfl; done) | (obtain ⟨_, _, _, _, _, _, _, rfl, _⟩ := h; rfl; done) | (obtain ⟨_, _, _, _, _, _, _, _, rfl, _⟩ := h; rfl; done) | (obtain ⟨_, _, _, _, _, _, _, _, _, rfl, _⟩ := h; rfl; done) | (obtain ⟨_, _, _, _, _, _, _, _, _, _, rfl, _⟩ := h; rfl; done) | (obtain ⟨_, _, _, _, _, _, _, _, _, _, _, rfl, _⟩ := h; rfl; done) | (obtain ⟨_, _, _, _, _, _, _, _, _, _, _, _, rfl, _⟩ := h; rfl; done) | (obtain ⟨_, _, _, _, _, _, _, _, _, _, _, _, _, rfl, _⟩ := h; rfl; done) | (obtain ⟨_, _, _, _, _, _, _, _, _, _, _, _, _, _, rfl, _⟩ := h; rfl; done) | (rcases h with h | h <;> first | (obtain ⟨_, rfl, _⟩ := h; rfl; done) | (obtain ⟨_, _, rfl, _⟩ := h; rfl; done) | (obtain ⟨_, _, _, rfl, _⟩ := h; rfl; done) | (obtain ⟨_, _, _, _, rfl, _⟩ := h; rfl; done) | (obtain ⟨_, _, _, _, _, rfl, _⟩ := h; rfl; done) | (obtain ⟨_, _, _, _, _, _, rfl, _⟩ := h; rfl; done) | (obtain ⟨_, _, _, _, _, _, _, rfl, _⟩ := h; rfl; done) | (obtain ⟨_, _, _, _, _, _, _, _, rfl, _⟩ := h; rfl; done) | (obtain ⟨_, _, _, _, _, _, _, _, _, rfl, _⟩ := h; rfl; done) | (obtain ⟨_, _, _, _, _, _, _, _, _, _, rfl, _⟩ := h; rfl; done) | (obtain ⟨_, _, _, _, _, _, _, _, _, _, _, rfl, _⟩ := h; rfl; done) | (obtain ⟨_, _, _, _, _, _, _, _, _, _, _, _, rfl, _⟩ := h; rfl; done) | (obtain ⟨_, _, _, _, _, _, _, _, _, _, _, _, _, rfl, _⟩ := h; rfl; done) | (obtain ⟨_, _, _, _, _, _, _, _, _, _, _, _, _, _, rfl, _⟩ := h; rfl; done))) (rd_standG K)
  have k__taken_reach := dv__taken_reach (P := P) (w := w) (b := b) (mg := mg) (sp := spReachG [P_is_name, P_number_by] P_number_by) F__taken_reach F_number_by k_number_by (PySem.W.mg_of X G cn_MOST_REACH) (by intro vs H Q E h; first | (obtain ⟨_, rfl, _⟩ := h; rfl; done) | (obtain ⟨_, _, rfl, _⟩ := h; rfl; done) | (obtain ⟨_, _, _, rfl, _⟩ := h; rfl; done) | (obtain ⟨_, _, _, _, rfl, _⟩ := h; rfl; done) | (obtain ⟨_, _, _, _, _, rfl, _⟩ := h; rfl; done) | (obtain ⟨_, _, _, _, _, _, rfl, _⟩ := h; rfl; done) | (obtain ⟨_, _, _, _, _, _, _, rfl, _⟩ := h; rfl; done) | (obtain ⟨_, _, _, _, _, _, _, _, rfl, _⟩ := h; rfl; done) | (obtain ⟨_, _, _, _, _, _, _, _, _, rfl, _⟩ := h; rfl; done) | (obtain ⟨_, _, _, _, _, _, _, _, _, _, rfl, _⟩ := h; rfl; done) | (obtain ⟨_, _, _, _, _, _, _, _, _, _, _, rfl, _⟩ := h; rfl; done) | (obtain ⟨_, _, _, _, _, _, _, _, _, _, _, _, rfl, _⟩ := h; rfl; done) | (obtain ⟨_, _, _, _, _, _, _, _, _, _, _, _, _, rfl, _⟩ := h; rfl; done) | (obtain ⟨_, _, _, _, _, _, _, _, _, _, _, _, _, _, rfl, _⟩ := h; rfl; done) | (rcases h with h | h <;> first | (obtain ⟨_, rfl, _⟩ := h; rfl; done) | (obtain ⟨_, _, rfl, _⟩ := h; rfl; done) | (obtain ⟨_, _, _, rfl, _⟩ := h; rfl; done) | (obtain ⟨_, _, _, _, rfl, _⟩ := h; rfl; done) | (obtain ⟨_, _, _, _, _, rfl, _⟩ := h; rfl; done) | (obtain ⟨_, _, _, _, _, _, rfl, _⟩ := h; rfl; done) | (obtain ⟨_, _, _, _, _, _, _, rfl, _⟩ := h; rfl; done) | (obtain ⟨_, _, _, _, _, _, _, _, rfl, _⟩ := h; rfl; done) | (obtain ⟨_, _, _, _, _, _, _, _, _, rfl, _⟩ := h; rfl; done) | (obtain ⟨_, _, _, _, _, _, _, _, _, _, rfl, _⟩ := h; rfl; done) | (obtain ⟨_, _, _, _, _, _, _, _, _, _, _, rfl, _⟩ := h; rfl; done) | (obtain ⟨_, _, _, _, _, _, _, _, _, _, _, _, rfl, _⟩ := h; rfl; done) | (obtain ⟨_, _, _, _, _, _, _, _, _, _, _, _, _, rfl, _⟩ := h; rfl; done) | (obtain ⟨_, _, _, _, _, _, _, _, _, _, _, _, _, _, rfl, _⟩ := h; rfl; done))) (rd_reachG K (L := [P_is_name, P_number_by]) (P := P_number_by))
  have k__taken_place := dv__taken_place (P := P) (w := w) (b := b) (mg := mg) (sp := spPlaceG [P_is_name, P_number_by] P_is_name) F__taken_place (PySem.W.mg_none_of X G no_len) (PySem.W.mg_of X G cn_MOST_PLACES) F_is_name k_is_name (by intro vs H Q E h; first | (obtain ⟨_, rfl, _⟩ := h; rfl; done) | (obtain ⟨_, _, rfl, _⟩ := h; rfl; done) | (obtain ⟨_, _, _, rfl, _⟩ := h; rfl; done) | (obtain ⟨_, _, _, _, rfl, _⟩ := h; rfl; done) | (obtain ⟨_, _, _, _, _, rfl, _⟩ := h; rfl; done) | (obtain ⟨_, _, _, _, _, _, rfl, _⟩ := h; rfl; done) | (obtain ⟨_, _, _, _, _, _, _, rfl, _⟩ := h; rfl; done) | (obtain ⟨_, _, _, _, _, _, _, _, rfl, _⟩ := h; rfl; done) | (obtain ⟨_, _, _, _, _, _, _, _, _, rfl, _⟩ := h; rfl; done) | (obtain ⟨_, _, _, _, _, _, _, _, _, _, rfl, _⟩ := h; rfl; done) | (obtain ⟨_, _, _, _, _, _, _, _, _, _, _, rfl, _⟩ := h; rfl; done) | (obtain ⟨_, _, _, _, _, _, _, _, _, _, _, _, rfl, _⟩ := h; rfl; done) | (obtain ⟨_, _, _, _, _, _, _, _, _, _, _, _, _, rfl, _⟩ := h; rfl; done) | (obtain ⟨_, _, _, _, _, _, _, _, _, _, _, _, _, _, rfl, _⟩ := h; rfl; done) | (rcases h with h | h <;> first | (obtain ⟨_, rfl, _⟩ := h; rfl; done) | (obtain ⟨_, _, rfl, _⟩ := h; rfl; done) | (obtain ⟨_, _, _, rfl, _⟩ := h; rfl; done) | (obtain ⟨_, _, _, _, rfl, _⟩ := h; rfl; done) | (obtain ⟨_, _, _, _, _, rfl, _⟩ := h; rfl; done) | (obtain ⟨_, _, _, _, _, _, rfl, _⟩ := h; rfl; done) | (obtain ⟨_, _, _, _, _, _, _, rfl, _⟩ := h; rfl; done) | (obtain ⟨_, _, _, _, _, _, _, _, rfl, _⟩ := h; rfl; done) | (obtain ⟨_, _, _, _, _, _, _, _, _, rfl, _⟩ := h; rfl; done) | (obtain ⟨_, _, _, _, _, _, _, _, _, _, rfl, _⟩ := h; rfl; done) | (obtain ⟨_, _, _, _, _, _, _, _, _, _, _, rfl, _⟩ := h; rfl; done) | (obtain ⟨_, _, _, _, _, _, _, _, _, _, _, _, rfl, _⟩ := h; rfl; done) | (obtain ⟨_, _, _, _, _, _, _, _, _, _, _, _, _, rfl, _⟩ := h; rfl; done) | (obtain ⟨_, _, _, _, _, _, _, _, _, _, _, _, _, _, rfl, _⟩ := h; rfl; done))) (rd_placeG K (L := [P_is_name, P_number_by]) (P := P_is_name))
  have k__drive_by := dv__drive_by (P := P) (w := w) (b := b) (mg := mg) (sp := spDrvG [P_is_name, P_number_by] P_number_by) F__drive_by (PySem.W.mg_of X G cn_NONE_TEXT) F_number_by k_number_by (PySem.W.mg_of X G cn_MOST_MINUTES) (by intro vs H Q E h; first | (obtain ⟨_, rfl, _⟩ := h; rfl; done) | (obtain ⟨_, _, rfl, _⟩ := h; rfl; done) | (obtain ⟨_, _, _, rfl, _⟩ := h; rfl; done) | (obtain ⟨_, _, _, _, rfl, _⟩ := h; rfl; done) | (obtain ⟨_, _, _, _, _, rfl, _⟩ := h; rfl; done) | (obtain ⟨_, _, _, _, _, _, rfl, _⟩ := h; rfl; done) | (obtain ⟨_, _, _, _, _, _, _, rfl, _⟩ := h; rfl; done) | (obtain ⟨_, _, _, _, _, _, _, _, rfl, _⟩ := h; rfl; done) | (obtain ⟨_, _, _, _, _, _, _, _, _, rfl, _⟩ := h; rfl; done) | (obtain ⟨_, _, _, _, _, _, _, _, _, _, rfl, _⟩ := h; rfl; done) | (obtain ⟨_, _, _, _, _, _, _, _, _, _, _, rfl, _⟩ := h; rfl; done) | (obtain ⟨_, _, _, _, _, _, _, _, _, _, _, _, rfl, _⟩ := h; rfl; done) | (obtain ⟨_, _, _, _, _, _, _, _, _, _, _, _, _, rfl, _⟩ := h; rfl; done) | (obtain ⟨_, _, _, _, _, _, _, _, _, _, _, _, _, _, rfl, _⟩ := h; rfl; done) | (rcases h with h | h <;> first | (obtain ⟨_, rfl, _⟩ := h; rfl; done) | (obtain ⟨_, _, rfl, _⟩ := h; rfl; done) | (obtain ⟨_, _, _, rfl, _⟩ := h; rfl; done) | (obtain ⟨_, _, _, _, rfl, _⟩ := h; rfl; done) | (obtain ⟨_, _, _, _, _, rfl, _⟩ := h; rfl; done) | (obtain ⟨_, _, _, _, _, _, rfl, _⟩ := h; rfl; done) | (obtain ⟨_, _, _, _, _, _, _, rfl, _⟩ := h; rfl; done) | (obtain ⟨_, _, _, _, _, _, _, _, rfl, _⟩ := h; rfl; done) | (obtain ⟨_, _, _, _, _, _, _, _, _, rfl, _⟩ := h; rfl; done) | (obtain ⟨_, _, _, _, _, _, _, _, _, _, rfl, _⟩ := h; rfl; done) | (obtain ⟨_, _, _, _, _, _, _, _, _, _, _, rfl, _⟩ := h; rfl; done) | (obtain ⟨_, _, _, _, _, _, _, _, _, _, _, _, rfl, _⟩ := h; rfl; done) | (obtain ⟨_, _, _, _, _, _, _, _, _, _, _, _, _, rfl, _⟩ := h; rfl; done) | (obtain ⟨_, _, _, _, _, _, _, _, _, _, _, _, _, _, rfl, _⟩ := h; rfl; done))) (rd_drvG K (L := [P_is_name, P_number_by]) (P := P_number_by))
  have k__taken_road := dv__taken_road (P := P) (w := w) (b := b) (mg := mg) (sp := spRoadTG [P_is_name, P_number_by] P_number_by) F__taken_road (PySem.W.mg_none_of X G no_len) (PySem.W.mg_of X G cn_MOST_ROADS) F__drive_by k__drive_by F_is_road k_is_road (by intro vs H Q E h; first | (obtain ⟨_, rfl, _⟩ := h; rfl; done) | (obtain ⟨_, _, rfl, _⟩ := h; rfl; done) | (obtain ⟨_, _, _, rfl, _⟩ := h; rfl; done) | (obtain ⟨_, _, _, _, rfl, _⟩ := h; rfl; done) | (obtain ⟨_, _, _, _, _, rfl, _⟩ := h; rfl; done) | (obtain ⟨_, _, _, _, _, _, rfl, _⟩ := h; rfl; done) | (obtain ⟨_, _, _, _, _, _, _, rfl, _⟩ := h; rfl; done) | (obtain ⟨_, _, _, _, _, _, _, _, rfl, _⟩ := h; rfl; done) | (obtain ⟨_, _, _, _, _, _, _, _, _, rfl, _⟩ := h; rfl; done) | (obtain ⟨_, _, _, _, _, _, _, _, _, _, rfl, _⟩ := h; rfl; done) | (obtain ⟨_, _, _, _, _, _, _, _, _, _, _, rfl, _⟩ := h; rfl; done) | (obtain ⟨_, _, _, _, _, _, _, _, _, _, _, _, rfl, _⟩ := h; rfl; done) | (obtain ⟨_, _, _, _, _, _, _, _, _, _, _, _, _, rfl, _⟩ := h; rfl; done) | (obtain ⟨_, _, _, _, _, _, _, _, _, _, _, _, _, _, rfl, _⟩ := h; rfl; done) | (rcases h with h | h <;> first | (obtain ⟨_, rfl, _⟩ := h; rfl; done) | (obtain ⟨_, _, rfl, _⟩ := h; rfl; done) | (obtain ⟨_, _, _, rfl, _⟩ := h; rfl; done) | (obtain ⟨_, _, _, _, rfl, _⟩ := h; rfl; done) | (obtain ⟨_, _, _, _, _, rfl, _⟩ := h; rfl; done) | (obtain ⟨_, _, _, _, _, _, rfl, _⟩ := h; rfl; done) | (obtain ⟨_, _, _, _, _, _, _, rfl, _⟩ := h; rfl; done) | (obtain ⟨_, _, _, _, _, _, _, _, rfl, _⟩ := h; rfl; done) | (obtain ⟨_, _, _, _, _, _, _, _, _, rfl, _⟩ := h; rfl; done) | (obtain ⟨_, _, _, _, _, _, _, _, _, _, rfl, _⟩ := h; rfl; done) | (obtain ⟨_, _, _, _, _, _, _, _, _, _, _, rfl, _⟩ := h; rfl; done) | (obtain ⟨_, _, _, _, _, _, _, _, _, _, _, _, rfl, _⟩ := h; rfl; done) | (obtain ⟨_, _, _, _, _, _, _, _, _, _, _, _, _, rfl, _⟩ := h; rfl; done) | (obtain ⟨_, _, _, _, _, _, _, _, _, _, _, _, _, _, rfl, _⟩ := h; rfl; done))) (rd_roadTG K (L := [P_is_name, P_number_by]) (P := P_number_by))
  have k__taken := dv__taken (P := P) (w := w) (b := b) (mg := mg) (sp := spTakenG [P_is_name, P_number_by] P_is_name) F__taken (PySem.W.mg_none_of X G no_len) F__taken_place k__taken_place F__taken_road k__taken_road F__taken_stand k__taken_stand F__taken_reach k__taken_reach (by intro vs H Q E h; first | (obtain ⟨_, rfl, _⟩ := h; rfl; done) | (obtain ⟨_, _, rfl, _⟩ := h; rfl; done) | (obtain ⟨_, _, _, rfl, _⟩ := h; rfl; done) | (obtain ⟨_, _, _, _, rfl, _⟩ := h; rfl; done) | (obtain ⟨_, _, _, _, _, rfl, _⟩ := h; rfl; done) | (obtain ⟨_, _, _, _, _, _, rfl, _⟩ := h; rfl; done) | (obtain ⟨_, _, _, _, _, _, _, rfl, _⟩ := h; rfl; done) | (obtain ⟨_, _, _, _, _, _, _, _, rfl, _⟩ := h; rfl; done) | (obtain ⟨_, _, _, _, _, _, _, _, _, rfl, _⟩ := h; rfl; done) | (obtain ⟨_, _, _, _, _, _, _, _, _, _, rfl, _⟩ := h; rfl; done) | (obtain ⟨_, _, _, _, _, _, _, _, _, _, _, rfl, _⟩ := h; rfl; done) | (obtain ⟨_, _, _, _, _, _, _, _, _, _, _, _, rfl, _⟩ := h; rfl; done) | (obtain ⟨_, _, _, _, _, _, _, _, _, _, _, _, _, rfl, _⟩ := h; rfl; done) | (obtain ⟨_, _, _, _, _, _, _, _, _, _, _, _, _, _, rfl, _⟩ := h; rfl; done) | (rcases h with h | h <;> first | (obtain ⟨_, rfl, _⟩ := h; rfl; done) | (obtain ⟨_, _, rfl, _⟩ := h; rfl; done) | (obtain ⟨_, _, _, rfl, _⟩ := h; rfl; done) | (obtain ⟨_, _, _, _, rfl, _⟩ := h; rfl; done) | (obtain ⟨_, _, _, _, _, rfl, _⟩ := h; rfl; done) | (obtain ⟨_, _, _, _, _, _, rfl, _⟩ := h; rfl; done) | (obtain ⟨_, _, _, _, _, _, _, rfl, _⟩ := h; rfl; done) | (obtain ⟨_, _, _, _, _, _, _, _, rfl, _⟩ := h; rfl; done) | (obtain ⟨_, _, _, _, _, _, _, _, _, rfl, _⟩ := h; rfl; done) | (obtain ⟨_, _, _, _, _, _, _, _, _, _, rfl, _⟩ := h; rfl; done) | (obtain ⟨_, _, _, _, _, _, _, _, _, _, _, rfl, _⟩ := h; rfl; done) | (obtain ⟨_, _, _, _, _, _, _, _, _, _, _, _, rfl, _⟩ := h; rfl; done) | (obtain ⟨_, _, _, _, _, _, _, _, _, _, _, _, _, rfl, _⟩ := h; rfl; done) | (obtain ⟨_, _, _, _, _, _, _, _, _, _, _, _, _, _, rfl, _⟩ := h; rfl; done))) (rd_takenG K (L := [P_is_name, P_number_by]) (P1 := P_is_name) (P2 := P_number_by) (by simp))
  have k_town_by := dv_town_by (P := P) (w := w) (b := b) (mg := mg) (sp := spTownByG c_NoText [P_is_name, P_number_by] P_is_name) F_town_by (PySem.W.mg_of X G ad_NoText) (PySem.W.mg_none_of X G no_isinstance) (PySem.W.mg_none_of X G no_str) T_NoText fi_NoText____init__ (beq_iff_eq.mp ifn_NoText____init__) F_NoText____init__.b Fi_NoText (PySem.W.mg_none_of X G no_enumerate) F__taken k__taken (PySem.W.mg_none_of X G no_len) (PySem.W.mg_none_of X G no_tuple) (by intro vs H Q E h; first | (obtain ⟨_, rfl, _⟩ := h; rfl; done) | (obtain ⟨_, _, rfl, _⟩ := h; rfl; done) | (obtain ⟨_, _, _, rfl, _⟩ := h; rfl; done) | (obtain ⟨_, _, _, _, rfl, _⟩ := h; rfl; done) | (obtain ⟨_, _, _, _, _, rfl, _⟩ := h; rfl; done) | (obtain ⟨_, _, _, _, _, _, rfl, _⟩ := h; rfl; done) | (obtain ⟨_, _, _, _, _, _, _, rfl, _⟩ := h; rfl; done) | (obtain ⟨_, _, _, _, _, _, _, _, rfl, _⟩ := h; rfl; done) | (obtain ⟨_, _, _, _, _, _, _, _, _, rfl, _⟩ := h; rfl; done) | (obtain ⟨_, _, _, _, _, _, _, _, _, _, rfl, _⟩ := h; rfl; done) | (obtain ⟨_, _, _, _, _, _, _, _, _, _, _, rfl, _⟩ := h; rfl; done) | (obtain ⟨_, _, _, _, _, _, _, _, _, _, _, _, rfl, _⟩ := h; rfl; done) | (obtain ⟨_, _, _, _, _, _, _, _, _, _, _, _, _, rfl, _⟩ := h; rfl; done) | (obtain ⟨_, _, _, _, _, _, _, _, _, _, _, _, _, _, rfl, _⟩ := h; rfl; done) | (rcases h with h | h <;> first | (obtain ⟨_, rfl, _⟩ := h; rfl; done) | (obtain ⟨_, _, rfl, _⟩ := h; rfl; done) | (obtain ⟨_, _, _, rfl, _⟩ := h; rfl; done) | (obtain ⟨_, _, _, _, rfl, _⟩ := h; rfl; done) | (obtain ⟨_, _, _, _, _, rfl, _⟩ := h; rfl; done) | (obtain ⟨_, _, _, _, _, _, rfl, _⟩ := h; rfl; done) | (obtain ⟨_, _, _, _, _, _, _, rfl, _⟩ := h; rfl; done) | (obtain ⟨_, _, _, _, _, _, _, _, rfl, _⟩ := h; rfl; done) | (obtain ⟨_, _, _, _, _, _, _, _, _, rfl, _⟩ := h; rfl; done) | (obtain ⟨_, _, _, _, _, _, _, _, _, _, rfl, _⟩ := h; rfl; done) | (obtain ⟨_, _, _, _, _, _, _, _, _, _, _, rfl, _⟩ := h; rfl; done) | (obtain ⟨_, _, _, _, _, _, _, _, _, _, _, _, rfl, _⟩ := h; rfl; done) | (obtain ⟨_, _, _, _, _, _, _, _, _, _, _, _, _, rfl, _⟩ := h; rfl; done) | (obtain ⟨_, _, _, _, _, _, _, _, _, _, _, _, _, _, rfl, _⟩ := h; rfl; done))) (rd_townByG K (CN := c_NoText) (L := [P_is_name, P_number_by]) (P1 := P_is_name))
  have k__law_pen := dv__law_pen (P := P) (w := w) (b := b) (mg := mg) (sp := spPen K) F__law_pen (PySem.W.mg_none_of X G no_len) (PySem.W.mg_none_of X G no_abs) (by intro vs H Q E h; first | (obtain ⟨_, rfl, _⟩ := h; rfl; done) | (obtain ⟨_, _, rfl, _⟩ := h; rfl; done) | (obtain ⟨_, _, _, rfl, _⟩ := h; rfl; done) | (obtain ⟨_, _, _, _, rfl, _⟩ := h; rfl; done) | (obtain ⟨_, _, _, _, _, rfl, _⟩ := h; rfl; done) | (obtain ⟨_, _, _, _, _, _, rfl, _⟩ := h; rfl; done) | (obtain ⟨_, _, _, _, _, _, _, rfl, _⟩ := h; rfl; done) | (obtain ⟨_, _, _, _, _, _, _, _, rfl, _⟩ := h; rfl; done) | (obtain ⟨_, _, _, _, _, _, _, _, _, rfl, _⟩ := h; rfl; done) | (obtain ⟨_, _, _, _, _, _, _, _, _, _, rfl, _⟩ := h; rfl; done) | (obtain ⟨_, _, _, _, _, _, _, _, _, _, _, rfl, _⟩ := h; rfl; done) | (obtain ⟨_, _, _, _, _, _, _, _, _, _, _, _, rfl, _⟩ := h; rfl; done) | (obtain ⟨_, _, _, _, _, _, _, _, _, _, _, _, _, rfl, _⟩ := h; rfl; done) | (obtain ⟨_, _, _, _, _, _, _, _, _, _, _, _, _, _, rfl, _⟩ := h; rfl; done) | (rcases h with h | h <;> first | (obtain ⟨_, rfl, _⟩ := h; rfl; done) | (obtain ⟨_, _, rfl, _⟩ := h; rfl; done) | (obtain ⟨_, _, _, rfl, _⟩ := h; rfl; done) | (obtain ⟨_, _, _, _, rfl, _⟩ := h; rfl; done) | (obtain ⟨_, _, _, _, _, rfl, _⟩ := h; rfl; done) | (obtain ⟨_, _, _, _, _, _, rfl, _⟩ := h; rfl; done) | (obtain ⟨_, _, _, _, _, _, _, rfl, _⟩ := h; rfl; done) | (obtain ⟨_, _, _, _, _, _, _, _, rfl, _⟩ := h; rfl; done) | (obtain ⟨_, _, _, _, _, _, _, _, _, rfl, _⟩ := h; rfl; done) | (obtain ⟨_, _, _, _, _, _, _, _, _, _, rfl, _⟩ := h; rfl; done) | (obtain ⟨_, _, _, _, _, _, _, _, _, _, _, rfl, _⟩ := h; rfl; done) | (obtain ⟨_, _, _, _, _, _, _, _, _, _, _, _, rfl, _⟩ := h; rfl; done) | (obtain ⟨_, _, _, _, _, _, _, _, _, _, _, _, _, rfl, _⟩ := h; rfl; done) | (obtain ⟨_, _, _, _, _, _, _, _, _, _, _, _, _, _, rfl, _⟩ := h; rfl; done))) (rd_pen K)
  have k__law_draw := dv__law_draw (P := P) (w := w) (b := b) (mg := mg) (sp := spDraw) F__law_draw  (by intro vs H Q E h; first | (obtain ⟨_, rfl, _⟩ := h; rfl; done) | (obtain ⟨_, _, rfl, _⟩ := h; rfl; done) | (obtain ⟨_, _, _, rfl, _⟩ := h; rfl; done) | (obtain ⟨_, _, _, _, rfl, _⟩ := h; rfl; done) | (obtain ⟨_, _, _, _, _, rfl, _⟩ := h; rfl; done) | (obtain ⟨_, _, _, _, _, _, rfl, _⟩ := h; rfl; done) | (obtain ⟨_, _, _, _, _, _, _, rfl, _⟩ := h; rfl; done) | (obtain ⟨_, _, _, _, _, _, _, _, rfl, _⟩ := h; rfl; done) | (obtain ⟨_, _, _, _, _, _, _, _, _, rfl, _⟩ := h; rfl; done) | (obtain ⟨_, _, _, _, _, _, _, _, _, _, rfl, _⟩ := h; rfl; done) | (obtain ⟨_, _, _, _, _, _, _, _, _, _, _, rfl, _⟩ := h; rfl; done) | (obtain ⟨_, _, _, _, _, _, _, _, _, _, _, _, rfl, _⟩ := h; rfl; done) | (obtain ⟨_, _, _, _, _, _, _, _, _, _, _, _, _, rfl, _⟩ := h; rfl; done) | (obtain ⟨_, _, _, _, _, _, _, _, _, _, _, _, _, _, rfl, _⟩ := h; rfl; done) | (rcases h with h | h <;> first | (obtain ⟨_, rfl, _⟩ := h; rfl; done) | (obtain ⟨_, _, rfl, _⟩ := h; rfl; done) | (obtain ⟨_, _, _, rfl, _⟩ := h; rfl; done) | (obtain ⟨_, _, _, _, rfl, _⟩ := h; rfl; done) | (obtain ⟨_, _, _, _, _, rfl, _⟩ := h; rfl; done) | (obtain ⟨_, _, _, _, _, _, rfl, _⟩ := h; rfl; done) | (obtain ⟨_, _, _, _, _, _, _, rfl, _⟩ := h; rfl; done) | (obtain ⟨_, _, _, _, _, _, _, _, rfl, _⟩ := h; rfl; done) | (obtain ⟨_, _, _, _, _, _, _, _, _, rfl, _⟩ := h; rfl; done) | (obtain ⟨_, _, _, _, _, _, _, _, _, _, rfl, _⟩ := h; rfl; done) | (obtain ⟨_, _, _, _, _, _, _, _, _, _, _, rfl, _⟩ := h; rfl; done) | (obtain ⟨_, _, _, _, _, _, _, _, _, _, _, _, rfl, _⟩ := h; rfl; done) | (obtain ⟨_, _, _, _, _, _, _, _, _, _, _, _, _, rfl, _⟩ := h; rfl; done) | (obtain ⟨_, _, _, _, _, _, _, _, _, _, _, _, _, _, rfl, _⟩ := h; rfl; done))) (rd_draw K)
  have k__law_word := dv__law_word (P := P) (w := w) (b := b) (mg := mg) (sp := spWordP) F__law_word F__law_draw k__law_draw (PySem.W.mg_none_of X G no_range) (by intro vs H Q E h; first | (obtain ⟨_, rfl, _⟩ := h; rfl; done) | (obtain ⟨_, _, rfl, _⟩ := h; rfl; done) | (obtain ⟨_, _, _, rfl, _⟩ := h; rfl; done) | (obtain ⟨_, _, _, _, rfl, _⟩ := h; rfl; done) | (obtain ⟨_, _, _, _, _, rfl, _⟩ := h; rfl; done) | (obtain ⟨_, _, _, _, _, _, rfl, _⟩ := h; rfl; done) | (obtain ⟨_, _, _, _, _, _, _, rfl, _⟩ := h; rfl; done) | (obtain ⟨_, _, _, _, _, _, _, _, rfl, _⟩ := h; rfl; done) | (obtain ⟨_, _, _, _, _, _, _, _, _, rfl, _⟩ := h; rfl; done) | (obtain ⟨_, _, _, _, _, _, _, _, _, _, rfl, _⟩ := h; rfl; done) | (obtain ⟨_, _, _, _, _, _, _, _, _, _, _, rfl, _⟩ := h; rfl; done) | (obtain ⟨_, _, _, _, _, _, _, _, _, _, _, _, rfl, _⟩ := h; rfl; done) | (obtain ⟨_, _, _, _, _, _, _, _, _, _, _, _, _, rfl, _⟩ := h; rfl; done) | (obtain ⟨_, _, _, _, _, _, _, _, _, _, _, _, _, _, rfl, _⟩ := h; rfl; done) | (rcases h with h | h <;> first | (obtain ⟨_, rfl, _⟩ := h; rfl; done) | (obtain ⟨_, _, rfl, _⟩ := h; rfl; done) | (obtain ⟨_, _, _, rfl, _⟩ := h; rfl; done) | (obtain ⟨_, _, _, _, rfl, _⟩ := h; rfl; done) | (obtain ⟨_, _, _, _, _, rfl, _⟩ := h; rfl; done) | (obtain ⟨_, _, _, _, _, _, rfl, _⟩ := h; rfl; done) | (obtain ⟨_, _, _, _, _, _, _, rfl, _⟩ := h; rfl; done) | (obtain ⟨_, _, _, _, _, _, _, _, rfl, _⟩ := h; rfl; done) | (obtain ⟨_, _, _, _, _, _, _, _, _, rfl, _⟩ := h; rfl; done) | (obtain ⟨_, _, _, _, _, _, _, _, _, _, rfl, _⟩ := h; rfl; done) | (obtain ⟨_, _, _, _, _, _, _, _, _, _, _, rfl, _⟩ := h; rfl; done) | (obtain ⟨_, _, _, _, _, _, _, _, _, _, _, _, rfl, _⟩ := h; rfl; done) | (obtain ⟨_, _, _, _, _, _, _, _, _, _, _, _, _, rfl, _⟩ := h; rfl; done) | (obtain ⟨_, _, _, _, _, _, _, _, _, _, _, _, _, _, rfl, _⟩ := h; rfl; done))) (rd_wordP K)
  have k__law_names := dv__law_names (P := P) (w := w) (b := b) (mg := mg) (sp := spNamesP) F__law_names F__law_draw k__law_draw F__law_word k__law_word (PySem.W.mg_none_of X G no_int) (PySem.W.mg_none_of X G no_len) (PySem.W.mg_none_of X G no_range) (by intro vs H Q E h; first | (obtain ⟨_, rfl, _⟩ := h; rfl; done) | (obtain ⟨_, _, rfl, _⟩ := h; rfl; done) | (obtain ⟨_, _, _, rfl, _⟩ := h; rfl; done) | (obtain ⟨_, _, _, _, rfl, _⟩ := h; rfl; done) | (obtain ⟨_, _, _, _, _, rfl, _⟩ := h; rfl; done) | (obtain ⟨_, _, _, _, _, _, rfl, _⟩ := h; rfl; done) | (obtain ⟨_, _, _, _, _, _, _, rfl, _⟩ := h; rfl; done) | (obtain ⟨_, _, _, _, _, _, _, _, rfl, _⟩ := h; rfl; done) | (obtain ⟨_, _, _, _, _, _, _, _, _, rfl, _⟩ := h; rfl; done) | (obtain ⟨_, _, _, _, _, _, _, _, _, _, rfl, _⟩ := h; rfl; done) | (obtain ⟨_, _, _, _, _, _, _, _, _, _, _, rfl, _⟩ := h; rfl; done) | (obtain ⟨_, _, _, _, _, _, _, _, _, _, _, _, rfl, _⟩ := h; rfl; done) | (obtain ⟨_, _, _, _, _, _, _, _, _, _, _, _, _, rfl, _⟩ := h; rfl; done) | (obtain ⟨_, _, _, _, _, _, _, _, _, _, _, _, _, _, rfl, _⟩ := h; rfl; done) | (rcases h with h | h <;> first | (obtain ⟨_, rfl, _⟩ := h; rfl; done) | (obtain ⟨_, _, rfl, _⟩ := h; rfl; done) | (obtain ⟨_, _, _, rfl, _⟩ := h; rfl; done) | (obtain ⟨_, _, _, _, rfl, _⟩ := h; rfl; done) | (obtain ⟨_, _, _, _, _, rfl, _⟩ := h; rfl; done) | (obtain ⟨_, _, _, _, _, _, rfl, _⟩ := h; rfl; done) | (obtain ⟨_, _, _, _, _, _, _, rfl, _⟩ := h; rfl; done) | (obtain ⟨_, _, _, _, _, _, _, _, rfl, _⟩ := h; rfl; done) | (obtain ⟨_, _, _, _, _, _, _, _, _, rfl, _⟩ := h; rfl; done) | (obtain ⟨_, _, _, _, _, _, _, _, _, _, rfl, _⟩ := h; rfl; done) | (obtain ⟨_, _, _, _, _, _, _, _, _, _, _, rfl, _⟩ := h; rfl; done) | (obtain ⟨_, _, _, _, _, _, _, _, _, _, _, _, rfl, _⟩ := h; rfl; done) | (obtain ⟨_, _, _, _, _, _, _, _, _, _, _, _, _, rfl, _⟩ := h; rfl; done) | (obtain ⟨_, _, _, _, _, _, _, _, _, _, _, _, _, _, rfl, _⟩ := h; rfl; done))) (rd_namesP K)
  have k__law_is_name := dv__law_is_name (P := P) (w := w) (b := b) (mg := mg) (sp := spIsL K) F__law_is_name (PySem.W.mg_none_of X G no_isinstance) (PySem.W.mg_none_of X G no_str) (PySem.W.mg_none_of X G no_len) (by intro vs H Q E h; first | (obtain ⟨_, rfl, _⟩ := h; rfl; done) | (obtain ⟨_, _, rfl, _⟩ := h; rfl; done) | (obtain ⟨_, _, _, rfl, _⟩ := h; rfl; done) | (obtain ⟨_, _, _, _, rfl, _⟩ := h; rfl; done) | (obtain ⟨_, _, _, _, _, rfl, _⟩ := h; rfl; done) | (obtain ⟨_, _, _, _, _, _, rfl, _⟩ := h; rfl; done) | (obtain ⟨_, _, _, _, _, _, _, rfl, _⟩ := h; rfl; done) | (obtain ⟨_, _, _, _, _, _, _, _, rfl, _⟩ := h; rfl; done) | (obtain ⟨_, _, _, _, _, _, _, _, _, rfl, _⟩ := h; rfl; done) | (obtain ⟨_, _, _, _, _, _, _, _, _, _, rfl, _⟩ := h; rfl; done) | (obtain ⟨_, _, _, _, _, _, _, _, _, _, _, rfl, _⟩ := h; rfl; done) | (obtain ⟨_, _, _, _, _, _, _, _, _, _, _, _, rfl, _⟩ := h; rfl; done) | (obtain ⟨_, _, _, _, _, _, _, _, _, _, _, _, _, rfl, _⟩ := h; rfl; done) | (obtain ⟨_, _, _, _, _, _, _, _, _, _, _, _, _, _, rfl, _⟩ := h; rfl; done) | (rcases h with h | h <;> first | (obtain ⟨_, rfl, _⟩ := h; rfl; done) | (obtain ⟨_, _, rfl, _⟩ := h; rfl; done) | (obtain ⟨_, _, _, rfl, _⟩ := h; rfl; done) | (obtain ⟨_, _, _, _, rfl, _⟩ := h; rfl; done) | (obtain ⟨_, _, _, _, _, rfl, _⟩ := h; rfl; done) | (obtain ⟨_, _, _, _, _, _, rfl, _⟩ := h; rfl; done) | (obtain ⟨_, _, _, _, _, _, _, rfl, _⟩ := h; rfl; done) | (obtain ⟨_, _, _, _, _, _, _, _, rfl, _⟩ := h; rfl; done) | (obtain ⟨_, _, _, _, _, _, _, _, _, rfl, _⟩ := h; rfl; done) | (obtain ⟨_, _, _, _, _, _, _, _, _, _, rfl, _⟩ := h; rfl; done) | (obtain ⟨_, _, _, _, _, _, _, _, _, _, _, rfl, _⟩ := h; rfl; done) | (obtain ⟨_, _, _, _, _, _, _, _, _, _, _, _, rfl, _⟩ := h; rfl; done) | (obtain ⟨_, _, _, _, _, _, _, _, _, _, _, _, _, rfl, _⟩ := h; rfl; done) | (obtain ⟨_, _, _, _, _, _, _, _, _, _, _, _, _, _, rfl, _⟩ := h; rfl; done))) (rd_isL K)
  have k__law_whole := dv__law_whole (P := P) (w := w) (b := b) (mg := mg) (sp := spWholeL) F__law_whole (PySem.W.mg_none_of X G no_isinstance) (PySem.W.mg_none_of X G no_int) (PySem.W.mg_none_of X G no_bool) (by intro vs H Q E h; first | (obtain ⟨_, rfl, _⟩ := h; rfl; done) | (obtain ⟨_, _, rfl, _⟩ := h; rfl; done) | (obtain ⟨_, _, _, rfl, _⟩ := h; rfl; done) | (obtain ⟨_, _, _, _, rfl, _⟩ := h; rfl; done) | (obtain ⟨_, _, _, _, _, rfl, _⟩ := h; rfl; done) | (obtain ⟨_, _, _, _, _, _, rfl, _⟩ := h; rfl; done) | (obtain ⟨_, _, _, _, _, _, _, rfl, _⟩ := h; rfl; done) | (obtain ⟨_, _, _, _, _, _, _, _, rfl, _⟩ := h; rfl; done) | (obtain ⟨_, _, _, _, _, _, _, _, _, rfl, _⟩ := h; rfl; done) | (obtain ⟨_, _, _, _, _, _, _, _, _, _, rfl, _⟩ := h; rfl; done) | (obtain ⟨_, _, _, _, _, _, _, _, _, _, _, rfl, _⟩ := h; rfl; done) | (obtain ⟨_, _, _, _, _, _, _, _, _, _, _, _, rfl, _⟩ := h; rfl; done) | (obtain ⟨_, _, _, _, _, _, _, _, _, _, _, _, _, rfl, _⟩ := h; rfl; done) | (obtain ⟨_, _, _, _, _, _, _, _, _, _, _, _, _, _, rfl, _⟩ := h; rfl; done) | (rcases h with h | h <;> first | (obtain ⟨_, rfl, _⟩ := h; rfl; done) | (obtain ⟨_, _, rfl, _⟩ := h; rfl; done) | (obtain ⟨_, _, _, rfl, _⟩ := h; rfl; done) | (obtain ⟨_, _, _, _, rfl, _⟩ := h; rfl; done) | (obtain ⟨_, _, _, _, _, rfl, _⟩ := h; rfl; done) | (obtain ⟨_, _, _, _, _, _, rfl, _⟩ := h; rfl; done) | (obtain ⟨_, _, _, _, _, _, _, rfl, _⟩ := h; rfl; done) | (obtain ⟨_, _, _, _, _, _, _, _, rfl, _⟩ := h; rfl; done) | (obtain ⟨_, _, _, _, _, _, _, _, _, rfl, _⟩ := h; rfl; done) | (obtain ⟨_, _, _, _, _, _, _, _, _, _, rfl, _⟩ := h; rfl; done) | (obtain ⟨_, _, _, _, _, _, _, _, _, _, _, rfl, _⟩ := h; rfl; done) | (obtain ⟨_, _, _, _, _, _, _, _, _, _, _, _, rfl, _⟩ := h; rfl; done) | (obtain ⟨_, _, _, _, _, _, _, _, _, _, _, _, _, rfl, _⟩ := h; rfl; done) | (obtain ⟨_, _, _, _, _, _, _, _, _, _, _, _, _, _, rfl, _⟩ := h; rfl; done))) (rd_wholeL K)
  have k__law_is_way := dv__law_is_way (P := P) (w := w) (b := b) (mg := mg) (sp := spDrv) F__law_is_way F__law_whole k__law_whole (by intro vs H Q E h; first | (obtain ⟨_, rfl, _⟩ := h; rfl; done) | (obtain ⟨_, _, rfl, _⟩ := h; rfl; done) | (obtain ⟨_, _, _, rfl, _⟩ := h; rfl; done) | (obtain ⟨_, _, _, _, rfl, _⟩ := h; rfl; done) | (obtain ⟨_, _, _, _, _, rfl, _⟩ := h; rfl; done) | (obtain ⟨_, _, _, _, _, _, rfl, _⟩ := h; rfl; done) | (obtain ⟨_, _, _, _, _, _, _, rfl, _⟩ := h; rfl; done) | (obtain ⟨_, _, _, _, _, _, _, _, rfl, _⟩ := h; rfl; done) | (obtain ⟨_, _, _, _, _, _, _, _, _, rfl, _⟩ := h; rfl; done) | (obtain ⟨_, _, _, _, _, _, _, _, _, _, rfl, _⟩ := h; rfl; done) | (obtain ⟨_, _, _, _, _, _, _, _, _, _, _, rfl, _⟩ := h; rfl; done) | (obtain ⟨_, _, _, _, _, _, _, _, _, _, _, _, rfl, _⟩ := h; rfl; done) | (obtain ⟨_, _, _, _, _, _, _, _, _, _, _, _, _, rfl, _⟩ := h; rfl; done) | (obtain ⟨_, _, _, _, _, _, _, _, _, _, _, _, _, _, rfl, _⟩ := h; rfl; done) | (rcases h with h | h <;> first | (obtain ⟨_, rfl, _⟩ := h; rfl; done) | (obtain ⟨_, _, rfl, _⟩ := h; rfl; done) | (obtain ⟨_, _, _, rfl, _⟩ := h; rfl; done) | (obtain ⟨_, _, _, _, rfl, _⟩ := h; rfl; done) | (obtain ⟨_, _, _, _, _, rfl, _⟩ := h; rfl; done) | (obtain ⟨_, _, _, _, _, _, rfl, _⟩ := h; rfl; done) | (obtain ⟨_, _, _, _, _, _, _, rfl, _⟩ := h; rfl; done) | (obtain ⟨_, _, _, _, _, _, _, _, rfl, _⟩ := h; rfl; done) | (obtain ⟨_, _, _, _, _, _, _, _, _, rfl, _⟩ := h; rfl; done) | (obtain ⟨_, _, _, _, _, _, _, _, _, _, rfl, _⟩ := h; rfl; done) | (obtain ⟨_, _, _, _, _, _, _, _, _, _, _, rfl, _⟩ := h; rfl; done) | (obtain ⟨_, _, _, _, _, _, _, _, _, _, _, _, rfl, _⟩ := h; rfl; done) | (obtain ⟨_, _, _, _, _, _, _, _, _, _, _, _, _, rfl, _⟩ := h; rfl; done) | (obtain ⟨_, _, _, _, _, _, _, _, _, _, _, _, _, _, rfl, _⟩ := h; rfl; done))) (rd_lawWay K)
  have k__law_is_road := dv__law_is_road (P := P) (w := w) (b := b) (mg := mg) (sp := spRoadL) F__law_is_road (PySem.W.mg_none_of X G no_isinstance) (PySem.W.mg_none_of X G no_tuple) (PySem.W.mg_none_of X G no_len) F__law_is_name k__law_is_name F__law_is_way k__law_is_way (by intro vs H Q E h; first | (obtain ⟨_, rfl, _⟩ := h; rfl; done) | (obtain ⟨_, _, rfl, _⟩ := h; rfl; done) | (obtain ⟨_, _, _, rfl, _⟩ := h; rfl; done) | (obtain ⟨_, _, _, _, rfl, _⟩ := h; rfl; done) | (obtain ⟨_, _, _, _, _, rfl, _⟩ := h; rfl; done) | (obtain ⟨_, _, _, _, _, _, rfl, _⟩ := h; rfl; done) | (obtain ⟨_, _, _, _, _, _, _, rfl, _⟩ := h; rfl; done) | (obtain ⟨_, _, _, _, _, _, _, _, rfl, _⟩ := h; rfl; done) | (obtain ⟨_, _, _, _, _, _, _, _, _, rfl, _⟩ := h; rfl; done) | (obtain ⟨_, _, _, _, _, _, _, _, _, _, rfl, _⟩ := h; rfl; done) | (obtain ⟨_, _, _, _, _, _, _, _, _, _, _, rfl, _⟩ := h; rfl; done) | (obtain ⟨_, _, _, _, _, _, _, _, _, _, _, _, rfl, _⟩ := h; rfl; done) | (obtain ⟨_, _, _, _, _, _, _, _, _, _, _, _, _, rfl, _⟩ := h; rfl; done) | (obtain ⟨_, _, _, _, _, _, _, _, _, _, _, _, _, _, rfl, _⟩ := h; rfl; done) | (rcases h with h | h <;> first | (obtain ⟨_, rfl, _⟩ := h; rfl; done) | (obtain ⟨_, _, rfl, _⟩ := h; rfl; done) | (obtain ⟨_, _, _, rfl, _⟩ := h; rfl; done) | (obtain ⟨_, _, _, _, rfl, _⟩ := h; rfl; done) | (obtain ⟨_, _, _, _, _, rfl, _⟩ := h; rfl; done) | (obtain ⟨_, _, _, _, _, _, rfl, _⟩ := h; rfl; done) | (obtain ⟨_, _, _, _, _, _, _, rfl, _⟩ := h; rfl; done) | (obtain ⟨_, _, _, _, _, _, _, _, rfl, _⟩ := h; rfl; done) | (obtain ⟨_, _, _, _, _, _, _, _, _, rfl, _⟩ := h; rfl; done) | (obtain ⟨_, _, _, _, _, _, _, _, _, _, rfl, _⟩ := h; rfl; done) | (obtain ⟨_, _, _, _, _, _, _, _, _, _, _, rfl, _⟩ := h; rfl; done) | (obtain ⟨_, _, _, _, _, _, _, _, _, _, _, _, rfl, _⟩ := h; rfl; done) | (obtain ⟨_, _, _, _, _, _, _, _, _, _, _, _, _, rfl, _⟩ := h; rfl; done) | (obtain ⟨_, _, _, _, _, _, _, _, _, _, _, _, _, _, rfl, _⟩ := h; rfl; done))) (rd_roadL K)
  have k__law_marks := dv__law_marks (P := P) (w := w) (b := b) (mg := mg) (sp := spMarks9 K c_NoText) F__law_marks (PySem.W.mg_of X G ad_WagonError) (PySem.W.mg_of X G ad_NoText) (PySem.W.mg_of X G ad_NoMoment) (PySem.W.mg_of X G ad_NoLog) (PySem.W.mg_of X G ad_NoDeed) (PySem.W.mg_of X G ad_NoCall) (PySem.W.mg_of X G ad_Late) (PySem.W.mg_of X G ad_TooMany) (PySem.W.mg_of X G ad_NoTown) (PySem.W.mg_of X G ad_NoTelling) (PySem.W.mg_of X G ad_NoRow) (PySem.W.mg_of X G ad_NoPaper) (PySem.W.mg_none_of X G no_isinstance) (PySem.W.mg_none_of X G no_ValueError) (by intro vs H Q E h; first | (obtain ⟨_, rfl, _⟩ := h; rfl; done) | (obtain ⟨_, _, rfl, _⟩ := h; rfl; done) | (obtain ⟨_, _, _, rfl, _⟩ := h; rfl; done) | (obtain ⟨_, _, _, _, rfl, _⟩ := h; rfl; done) | (obtain ⟨_, _, _, _, _, rfl, _⟩ := h; rfl; done) | (obtain ⟨_, _, _, _, _, _, rfl, _⟩ := h; rfl; done) | (obtain ⟨_, _, _, _, _, _, _, rfl, _⟩ := h; rfl; done) | (obtain ⟨_, _, _, _, _, _, _, _, rfl, _⟩ := h; rfl; done) | (obtain ⟨_, _, _, _, _, _, _, _, _, rfl, _⟩ := h; rfl; done) | (obtain ⟨_, _, _, _, _, _, _, _, _, _, rfl, _⟩ := h; rfl; done) | (obtain ⟨_, _, _, _, _, _, _, _, _, _, _, rfl, _⟩ := h; rfl; done) | (obtain ⟨_, _, _, _, _, _, _, _, _, _, _, _, rfl, _⟩ := h; rfl; done) | (obtain ⟨_, _, _, _, _, _, _, _, _, _, _, _, _, rfl, _⟩ := h; rfl; done) | (obtain ⟨_, _, _, _, _, _, _, _, _, _, _, _, _, _, rfl, _⟩ := h; rfl; done) | (rcases h with h | h <;> first | (obtain ⟨_, rfl, _⟩ := h; rfl; done) | (obtain ⟨_, _, rfl, _⟩ := h; rfl; done) | (obtain ⟨_, _, _, rfl, _⟩ := h; rfl; done) | (obtain ⟨_, _, _, _, rfl, _⟩ := h; rfl; done) | (obtain ⟨_, _, _, _, _, rfl, _⟩ := h; rfl; done) | (obtain ⟨_, _, _, _, _, _, rfl, _⟩ := h; rfl; done) | (obtain ⟨_, _, _, _, _, _, _, rfl, _⟩ := h; rfl; done) | (obtain ⟨_, _, _, _, _, _, _, _, rfl, _⟩ := h; rfl; done) | (obtain ⟨_, _, _, _, _, _, _, _, _, rfl, _⟩ := h; rfl; done) | (obtain ⟨_, _, _, _, _, _, _, _, _, _, rfl, _⟩ := h; rfl; done) | (obtain ⟨_, _, _, _, _, _, _, _, _, _, _, rfl, _⟩ := h; rfl; done) | (obtain ⟨_, _, _, _, _, _, _, _, _, _, _, _, rfl, _⟩ := h; rfl; done) | (obtain ⟨_, _, _, _, _, _, _, _, _, _, _, _, _, rfl, _⟩ := h; rfl; done) | (obtain ⟨_, _, _, _, _, _, _, _, _, _, _, _, _, _, rfl, _⟩ := h; rfl; done))) (rd_marks9 K F9)
  have k__law_number := dv__law_number (P := P) (w := w) (b := b) (mg := mg) (sp := spNumL) F__law_number (PySem.W.mg_none_of X G no_len) (PySem.W.mg_none_of X G no_int) (by intro vs H Q E h; first | (obtain ⟨_, rfl, _⟩ := h; rfl; done) | (obtain ⟨_, _, rfl, _⟩ := h; rfl; done) | (obtain ⟨_, _, _, rfl, _⟩ := h; rfl; done) | (obtain ⟨_, _, _, _, rfl, _⟩ := h; rfl; done) | (obtain ⟨_, _, _, _, _, rfl, _⟩ := h; rfl; done) | (obtain ⟨_, _, _, _, _, _, rfl, _⟩ := h; rfl; done) | (obtain ⟨_, _, _, _, _, _, _, rfl, _⟩ := h; rfl; done) | (obtain ⟨_, _, _, _, _, _, _, _, rfl, _⟩ := h; rfl; done) | (obtain ⟨_, _, _, _, _, _, _, _, _, rfl, _⟩ := h; rfl; done) | (obtain ⟨_, _, _, _, _, _, _, _, _, _, rfl, _⟩ := h; rfl; done) | (obtain ⟨_, _, _, _, _, _, _, _, _, _, _, rfl, _⟩ := h; rfl; done) | (obtain ⟨_, _, _, _, _, _, _, _, _, _, _, _, rfl, _⟩ := h; rfl; done) | (obtain ⟨_, _, _, _, _, _, _, _, _, _, _, _, _, rfl, _⟩ := h; rfl; done) | (obtain ⟨_, _, _, _, _, _, _, _, _, _, _, _, _, _, rfl, _⟩ := h; rfl; done) | (rcases h with h | h <;> first | (obtain ⟨_, rfl, _⟩ := h; rfl; done) | (obtain ⟨_, _, rfl, _⟩ := h; rfl; done) | (obtain ⟨_, _, _, rfl, _⟩ := h; rfl; done) | (obtain ⟨_, _, _, _, rfl, _⟩ := h; rfl; done) | (obtain ⟨_, _, _, _, _, rfl, _⟩ := h; rfl; done) | (obtain ⟨_, _, _, _, _, _, rfl, _⟩ := h; rfl; done) | (obtain ⟨_, _, _, _, _, _, _, rfl, _⟩ := h; rfl; done) | (obtain ⟨_, _, _, _, _, _, _, _, rfl, _⟩ := h; rfl; done) | (obtain ⟨_, _, _, _, _, _, _, _, _, rfl, _⟩ := h; rfl; done) | (obtain ⟨_, _, _, _, _, _, _, _, _, _, rfl, _⟩ := h; rfl; done) | (obtain ⟨_, _, _, _, _, _, _, _, _, _, _, rfl, _⟩ := h; rfl; done) | (obtain ⟨_, _, _, _, _, _, _, _, _, _, _, _, rfl, _⟩ := h; rfl; done) | (obtain ⟨_, _, _, _, _, _, _, _, _, _, _, _, _, rfl, _⟩ := h; rfl; done) | (obtain ⟨_, _, _, _, _, _, _, _, _, _, _, _, _, _, rfl, _⟩ := h; rfl; done))) (rd_numL K)
  have k__law_way_in := dv__law_way_in (P := P) (w := w) (b := b) (mg := mg) (sp := spWayL) F__law_way_in F__law_number k__law_number (by intro vs H Q E h; first | (obtain ⟨_, rfl, _⟩ := h; rfl; done) | (obtain ⟨_, _, rfl, _⟩ := h; rfl; done) | (obtain ⟨_, _, _, rfl, _⟩ := h; rfl; done) | (obtain ⟨_, _, _, _, rfl, _⟩ := h; rfl; done) | (obtain ⟨_, _, _, _, _, rfl, _⟩ := h; rfl; done) | (obtain ⟨_, _, _, _, _, _, rfl, _⟩ := h; rfl; done) | (obtain ⟨_, _, _, _, _, _, _, rfl, _⟩ := h; rfl; done) | (obtain ⟨_, _, _, _, _, _, _, _, rfl, _⟩ := h; rfl; done) | (obtain ⟨_, _, _, _, _, _, _, _, _, rfl, _⟩ := h; rfl; done) | (obtain ⟨_, _, _, _, _, _, _, _, _, _, rfl, _⟩ := h; rfl; done) | (obtain ⟨_, _, _, _, _, _, _, _, _, _, _, rfl, _⟩ := h; rfl; done) | (obtain ⟨_, _, _, _, _, _, _, _, _, _, _, _, rfl, _⟩ := h; rfl; done) | (obtain ⟨_, _, _, _, _, _, _, _, _, _, _, _, _, rfl, _⟩ := h; rfl; done) | (obtain ⟨_, _, _, _, _, _, _, _, _, _, _, _, _, _, rfl, _⟩ := h; rfl; done) | (rcases h with h | h <;> first | (obtain ⟨_, rfl, _⟩ := h; rfl; done) | (obtain ⟨_, _, rfl, _⟩ := h; rfl; done) | (obtain ⟨_, _, _, rfl, _⟩ := h; rfl; done) | (obtain ⟨_, _, _, _, rfl, _⟩ := h; rfl; done) | (obtain ⟨_, _, _, _, _, rfl, _⟩ := h; rfl; done) | (obtain ⟨_, _, _, _, _, _, rfl, _⟩ := h; rfl; done) | (obtain ⟨_, _, _, _, _, _, _, rfl, _⟩ := h; rfl; done) | (obtain ⟨_, _, _, _, _, _, _, _, rfl, _⟩ := h; rfl; done) | (obtain ⟨_, _, _, _, _, _, _, _, _, rfl, _⟩ := h; rfl; done) | (obtain ⟨_, _, _, _, _, _, _, _, _, _, rfl, _⟩ := h; rfl; done) | (obtain ⟨_, _, _, _, _, _, _, _, _, _, _, rfl, _⟩ := h; rfl; done) | (obtain ⟨_, _, _, _, _, _, _, _, _, _, _, _, rfl, _⟩ := h; rfl; done) | (obtain ⟨_, _, _, _, _, _, _, _, _, _, _, _, _, rfl, _⟩ := h; rfl; done) | (obtain ⟨_, _, _, _, _, _, _, _, _, _, _, _, _, _, rfl, _⟩ := h; rfl; done))) (rd_wayL K)
  have k__law_can_stand := dv__law_can_stand (P := P) (w := w) (b := b) (mg := mg) (sp := spCan) F__law_can_stand (PySem.W.mg_none_of X G no_len) F__law_is_name k__law_is_name F__law_way_in k__law_way_in F__law_is_road k__law_is_road F__law_number k__law_number (by intro vs H Q E h; first | (obtain ⟨_, rfl, _⟩ := h; rfl; done) | (obtain ⟨_, _, rfl, _⟩ := h; rfl; done) | (obtain ⟨_, _, _, rfl, _⟩ := h; rfl; done) | (obtain ⟨_, _, _, _, rfl, _⟩ := h; rfl; done) | (obtain ⟨_, _, _, _, _, rfl, _⟩ := h; rfl; done) | (obtain ⟨_, _, _, _, _, _, rfl, _⟩ := h; rfl; done) | (obtain ⟨_, _, _, _, _, _, _, rfl, _⟩ := h; rfl; done) | (obtain ⟨_, _, _, _, _, _, _, _, rfl, _⟩ := h; rfl; done) | (obtain ⟨_, _, _, _, _, _, _, _, _, rfl, _⟩ := h; rfl; done) | (obtain ⟨_, _, _, _, _, _, _, _, _, _, rfl, _⟩ := h; rfl; done) | (obtain ⟨_, _, _, _, _, _, _, _, _, _, _, rfl, _⟩ := h; rfl; done) | (obtain ⟨_, _, _, _, _, _, _, _, _, _, _, _, rfl, _⟩ := h; rfl; done) | (obtain ⟨_, _, _, _, _, _, _, _, _, _, _, _, _, rfl, _⟩ := h; rfl; done) | (obtain ⟨_, _, _, _, _, _, _, _, _, _, _, _, _, _, rfl, _⟩ := h; rfl; done) | (rcases h with h | h <;> first | (obtain ⟨_, rfl, _⟩ := h; rfl; done) | (obtain ⟨_, _, rfl, _⟩ := h; rfl; done) | (obtain ⟨_, _, _, rfl, _⟩ := h; rfl; done) | (obtain ⟨_, _, _, _, rfl, _⟩ := h; rfl; done) | (obtain ⟨_, _, _, _, _, rfl, _⟩ := h; rfl; done) | (obtain ⟨_, _, _, _, _, _, rfl, _⟩ := h; rfl; done) | (obtain ⟨_, _, _, _, _, _, _, rfl, _⟩ := h; rfl; done) | (obtain ⟨_, _, _, _, _, _, _, _, rfl, _⟩ := h; rfl; done) | (obtain ⟨_, _, _, _, _, _, _, _, _, rfl, _⟩ := h; rfl; done) | (obtain ⟨_, _, _, _, _, _, _, _, _, _, rfl, _⟩ := h; rfl; done) | (obtain ⟨_, _, _, _, _, _, _, _, _, _, _, rfl, _⟩ := h; rfl; done) | (obtain ⟨_, _, _, _, _, _, _, _, _, _, _, _, rfl, _⟩ := h; rfl; done) | (obtain ⟨_, _, _, _, _, _, _, _, _, _, _, _, _, rfl, _⟩ := h; rfl; done) | (obtain ⟨_, _, _, _, _, _, _, _, _, _, _, _, _, _, rfl, _⟩ := h; rfl; done))) (rd_can K)
  have k__law_read := dv__law_read (P := P) (w := w) (b := b) (mg := mg) (sp := spRead) F__law_read (PySem.W.mg_none_of X G no_isinstance) (PySem.W.mg_none_of X G no_str) (PySem.W.mg_none_of X G no_enumerate) F__law_can_stand k__law_can_stand (PySem.W.mg_none_of X G no_len) (PySem.W.mg_none_of X G no_tuple) (by intro vs H Q E h; first | (obtain ⟨_, rfl, _⟩ := h; rfl; done) | (obtain ⟨_, _, rfl, _⟩ := h; rfl; done) | (obtain ⟨_, _, _, rfl, _⟩ := h; rfl; done) | (obtain ⟨_, _, _, _, rfl, _⟩ := h; rfl; done) | (obtain ⟨_, _, _, _, _, rfl, _⟩ := h; rfl; done) | (obtain ⟨_, _, _, _, _, _, rfl, _⟩ := h; rfl; done) | (obtain ⟨_, _, _, _, _, _, _, rfl, _⟩ := h; rfl; done) | (obtain ⟨_, _, _, _, _, _, _, _, rfl, _⟩ := h; rfl; done) | (obtain ⟨_, _, _, _, _, _, _, _, _, rfl, _⟩ := h; rfl; done) | (obtain ⟨_, _, _, _, _, _, _, _, _, _, rfl, _⟩ := h; rfl; done) | (obtain ⟨_, _, _, _, _, _, _, _, _, _, _, rfl, _⟩ := h; rfl; done) | (obtain ⟨_, _, _, _, _, _, _, _, _, _, _, _, rfl, _⟩ := h; rfl; done) | (obtain ⟨_, _, _, _, _, _, _, _, _, _, _, _, _, rfl, _⟩ := h; rfl; done) | (obtain ⟨_, _, _, _, _, _, _, _, _, _, _, _, _, _, rfl, _⟩ := h; rfl; done) | (rcases h with h | h <;> first | (obtain ⟨_, rfl, _⟩ := h; rfl; done) | (obtain ⟨_, _, rfl, _⟩ := h; rfl; done) | (obtain ⟨_, _, _, rfl, _⟩ := h; rfl; done) | (obtain ⟨_, _, _, _, rfl, _⟩ := h; rfl; done) | (obtain ⟨_, _, _, _, _, rfl, _⟩ := h; rfl; done) | (obtain ⟨_, _, _, _, _, _, rfl, _⟩ := h; rfl; done) | (obtain ⟨_, _, _, _, _, _, _, rfl, _⟩ := h; rfl; done) | (obtain ⟨_, _, _, _, _, _, _, _, rfl, _⟩ := h; rfl; done) | (obtain ⟨_, _, _, _, _, _, _, _, _, rfl, _⟩ := h; rfl; done) | (obtain ⟨_, _, _, _, _, _, _, _, _, _, rfl, _⟩ := h; rfl; done) | (obtain ⟨_, _, _, _, _, _, _, _, _, _, _, rfl, _⟩ := h; rfl; done) | (obtain ⟨_, _, _, _, _, _, _, _, _, _, _, _, rfl, _⟩ := h; rfl; done) | (obtain ⟨_, _, _, _, _, _, _, _, _, _, _, _, _, rfl, _⟩ := h; rfl; done) | (obtain ⟨_, _, _, _, _, _, _, _, _, _, _, _, _, _, rfl, _⟩ := h; rfl; done))) (rd_read K)
  have k__law_told := dv__law_told (P := P) (w := w) (b := b) (mg := mg) (sp := spTold9 [P_is_name, P_number_by] P_is_name) F__law_told (PySem.W.mg_of X G ad_NoText) F_town_by k_town_by F__law_marks k__law_marks (by intro vs H Q E h; first | (obtain ⟨_, rfl, _⟩ := h; rfl; done) | (obtain ⟨_, _, rfl, _⟩ := h; rfl; done) | (obtain ⟨_, _, _, rfl, _⟩ := h; rfl; done) | (obtain ⟨_, _, _, _, rfl, _⟩ := h; rfl; done) | (obtain ⟨_, _, _, _, _, rfl, _⟩ := h; rfl; done) | (obtain ⟨_, _, _, _, _, _, rfl, _⟩ := h; rfl; done) | (obtain ⟨_, _, _, _, _, _, _, rfl, _⟩ := h; rfl; done) | (obtain ⟨_, _, _, _, _, _, _, _, rfl, _⟩ := h; rfl; done) | (obtain ⟨_, _, _, _, _, _, _, _, _, rfl, _⟩ := h; rfl; done) | (obtain ⟨_, _, _, _, _, _, _, _, _, _, rfl, _⟩ := h; rfl; done) | (obtain ⟨_, _, _, _, _, _, _, _, _, _, _, rfl, _⟩ := h; rfl; done) | (obtain ⟨_, _, _, _, _, _, _, _, _, _, _, _, rfl, _⟩ := h; rfl; done) | (obtain ⟨_, _, _, _, _, _, _, _, _, _, _, _, _, rfl, _⟩ := h; rfl; done) | (obtain ⟨_, _, _, _, _, _, _, _, _, _, _, _, _, _, rfl, _⟩ := h; rfl; done) | (rcases h with h | h <;> first | (obtain ⟨_, rfl, _⟩ := h; rfl; done) | (obtain ⟨_, _, rfl, _⟩ := h; rfl; done) | (obtain ⟨_, _, _, rfl, _⟩ := h; rfl; done) | (obtain ⟨_, _, _, _, rfl, _⟩ := h; rfl; done) | (obtain ⟨_, _, _, _, _, rfl, _⟩ := h; rfl; done) | (obtain ⟨_, _, _, _, _, _, rfl, _⟩ := h; rfl; done) | (obtain ⟨_, _, _, _, _, _, _, rfl, _⟩ := h; rfl; done) | (obtain ⟨_, _, _, _, _, _, _, _, rfl, _⟩ := h; rfl; done) | (obtain ⟨_, _, _, _, _, _, _, _, _, rfl, _⟩ := h; rfl; done) | (obtain ⟨_, _, _, _, _, _, _, _, _, _, rfl, _⟩ := h; rfl; done) | (obtain ⟨_, _, _, _, _, _, _, _, _, _, _, rfl, _⟩ := h; rfl; done) | (obtain ⟨_, _, _, _, _, _, _, _, _, _, _, _, rfl, _⟩ := h; rfl; done) | (obtain ⟨_, _, _, _, _, _, _, _, _, _, _, _, _, rfl, _⟩ := h; rfl; done) | (obtain ⟨_, _, _, _, _, _, _, _, _, _, _, _, _, _, rfl, _⟩ := h; rfl; done))) (rd_told9 K F9 na_NoText_row (L := [P_is_name, P_number_by]) (P1 := P_is_name))
  have k__law_minutes_word := dv__law_minutes_word (P := P) (w := w) (b := b) (mg := mg) (sp := spMinW) F__law_minutes_word (PySem.W.mg_none_of X G no_str) F__law_draw k__law_draw (by intro vs H Q E h; first | (obtain ⟨_, rfl, _⟩ := h; rfl; done) | (obtain ⟨_, _, rfl, _⟩ := h; rfl; done) | (obtain ⟨_, _, _, rfl, _⟩ := h; rfl; done) | (obtain ⟨_, _, _, _, rfl, _⟩ := h; rfl; done) | (obtain ⟨_, _, _, _, _, rfl, _⟩ := h; rfl; done) | (obtain ⟨_, _, _, _, _, _, rfl, _⟩ := h; rfl; done) | (obtain ⟨_, _, _, _, _, _, _, rfl, _⟩ := h; rfl; done) | (obtain ⟨_, _, _, _, _, _, _, _, rfl, _⟩ := h; rfl; done) | (obtain ⟨_, _, _, _, _, _, _, _, _, rfl, _⟩ := h; rfl; done) | (obtain ⟨_, _, _, _, _, _, _, _, _, _, rfl, _⟩ := h; rfl; done) | (obtain ⟨_, _, _, _, _, _, _, _, _, _, _, rfl, _⟩ := h; rfl; done) | (obtain ⟨_, _, _, _, _, _, _, _, _, _, _, _, rfl, _⟩ := h; rfl; done) | (obtain ⟨_, _, _, _, _, _, _, _, _, _, _, _, _, rfl, _⟩ := h; rfl; done) | (obtain ⟨_, _, _, _, _, _, _, _, _, _, _, _, _, _, rfl, _⟩ := h; rfl; done) | (rcases h with h | h <;> first | (obtain ⟨_, rfl, _⟩ := h; rfl; done) | (obtain ⟨_, _, rfl, _⟩ := h; rfl; done) | (obtain ⟨_, _, _, rfl, _⟩ := h; rfl; done) | (obtain ⟨_, _, _, _, rfl, _⟩ := h; rfl; done) | (obtain ⟨_, _, _, _, _, rfl, _⟩ := h; rfl; done) | (obtain ⟨_, _, _, _, _, _, rfl, _⟩ := h; rfl; done) | (obtain ⟨_, _, _, _, _, _, _, rfl, _⟩ := h; rfl; done) | (obtain ⟨_, _, _, _, _, _, _, _, rfl, _⟩ := h; rfl; done) | (obtain ⟨_, _, _, _, _, _, _, _, _, rfl, _⟩ := h; rfl; done) | (obtain ⟨_, _, _, _, _, _, _, _, _, _, rfl, _⟩ := h; rfl; done) | (obtain ⟨_, _, _, _, _, _, _, _, _, _, _, rfl, _⟩ := h; rfl; done) | (obtain ⟨_, _, _, _, _, _, _, _, _, _, _, _, rfl, _⟩ := h; rfl; done) | (obtain ⟨_, _, _, _, _, _, _, _, _, _, _, _, _, rfl, _⟩ := h; rfl; done) | (obtain ⟨_, _, _, _, _, _, _, _, _, _, _, _, _, _, rfl, _⟩ := h; rfl; done))) (rd_minW K)
  have k__law_road_row := dv__law_road_row (P := P) (w := w) (b := b) (mg := mg) (sp := spRoadW) F__law_road_row F__law_draw k__law_draw (PySem.W.mg_none_of X G no_len) (PySem.W.mg_none_of X G no_max) F__law_minutes_word k__law_minutes_word (by intro vs H Q E h; first | (obtain ⟨_, rfl, _⟩ := h; rfl; done) | (obtain ⟨_, _, rfl, _⟩ := h; rfl; done) | (obtain ⟨_, _, _, rfl, _⟩ := h; rfl; done) | (obtain ⟨_, _, _, _, rfl, _⟩ := h; rfl; done) | (obtain ⟨_, _, _, _, _, rfl, _⟩ := h; rfl; done) | (obtain ⟨_, _, _, _, _, _, rfl, _⟩ := h; rfl; done) | (obtain ⟨_, _, _, _, _, _, _, rfl, _⟩ := h; rfl; done) | (obtain ⟨_, _, _, _, _, _, _, _, rfl, _⟩ := h; rfl; done) | (obtain ⟨_, _, _, _, _, _, _, _, _, rfl, _⟩ := h; rfl; done) | (obtain ⟨_, _, _, _, _, _, _, _, _, _, rfl, _⟩ := h; rfl; done) | (obtain ⟨_, _, _, _, _, _, _, _, _, _, _, rfl, _⟩ := h; rfl; done) | (obtain ⟨_, _, _, _, _, _, _, _, _, _, _, _, rfl, _⟩ := h; rfl; done) | (obtain ⟨_, _, _, _, _, _, _, _, _, _, _, _, _, rfl, _⟩ := h; rfl; done) | (obtain ⟨_, _, _, _, _, _, _, _, _, _, _, _, _, _, rfl, _⟩ := h; rfl; done) | (rcases h with h | h <;> first | (obtain ⟨_, rfl, _⟩ := h; rfl; done) | (obtain ⟨_, _, rfl, _⟩ := h; rfl; done) | (obtain ⟨_, _, _, rfl, _⟩ := h; rfl; done) | (obtain ⟨_, _, _, _, rfl, _⟩ := h; rfl; done) | (obtain ⟨_, _, _, _, _, rfl, _⟩ := h; rfl; done) | (obtain ⟨_, _, _, _, _, _, rfl, _⟩ := h; rfl; done) | (obtain ⟨_, _, _, _, _, _, _, rfl, _⟩ := h; rfl; done) | (obtain ⟨_, _, _, _, _, _, _, _, rfl, _⟩ := h; rfl; done) | (obtain ⟨_, _, _, _, _, _, _, _, _, rfl, _⟩ := h; rfl; done) | (obtain ⟨_, _, _, _, _, _, _, _, _, _, rfl, _⟩ := h; rfl; done) | (obtain ⟨_, _, _, _, _, _, _, _, _, _, _, rfl, _⟩ := h; rfl; done) | (obtain ⟨_, _, _, _, _, _, _, _, _, _, _, _, rfl, _⟩ := h; rfl; done) | (obtain ⟨_, _, _, _, _, _, _, _, _, _, _, _, _, rfl, _⟩ := h; rfl; done) | (obtain ⟨_, _, _, _, _, _, _, _, _, _, _, _, _, _, rfl, _⟩ := h; rfl; done))) (rd_roadW K)
  have k__law_kinds := dv__law_kinds (P := P) (w := w) (b := b) (mg := mg) (sp := spKinds9) F__law_kinds F__law_names k__law_names F__law_draw k__law_draw (PySem.W.mg_none_of X G no_int) (PySem.W.mg_none_of X G no_range) F__law_road_row k__law_road_row (PySem.W.mg_none_of X G no_len) (by intro vs H Q E h; first | (obtain ⟨_, rfl, _⟩ := h; rfl; done) | (obtain ⟨_, _, rfl, _⟩ := h; rfl; done) | (obtain ⟨_, _, _, rfl, _⟩ := h; rfl; done) | (obtain ⟨_, _, _, _, rfl, _⟩ := h; rfl; done) | (obtain ⟨_, _, _, _, _, rfl, _⟩ := h; rfl; done) | (obtain ⟨_, _, _, _, _, _, rfl, _⟩ := h; rfl; done) | (obtain ⟨_, _, _, _, _, _, _, rfl, _⟩ := h; rfl; done) | (obtain ⟨_, _, _, _, _, _, _, _, rfl, _⟩ := h; rfl; done) | (obtain ⟨_, _, _, _, _, _, _, _, _, rfl, _⟩ := h; rfl; done) | (obtain ⟨_, _, _, _, _, _, _, _, _, _, rfl, _⟩ := h; rfl; done) | (obtain ⟨_, _, _, _, _, _, _, _, _, _, _, rfl, _⟩ := h; rfl; done) | (obtain ⟨_, _, _, _, _, _, _, _, _, _, _, _, rfl, _⟩ := h; rfl; done) | (obtain ⟨_, _, _, _, _, _, _, _, _, _, _, _, _, rfl, _⟩ := h; rfl; done) | (obtain ⟨_, _, _, _, _, _, _, _, _, _, _, _, _, _, rfl, _⟩ := h; rfl; done) | (rcases h with h | h <;> first | (obtain ⟨_, rfl, _⟩ := h; rfl; done) | (obtain ⟨_, _, rfl, _⟩ := h; rfl; done) | (obtain ⟨_, _, _, rfl, _⟩ := h; rfl; done) | (obtain ⟨_, _, _, _, rfl, _⟩ := h; rfl; done) | (obtain ⟨_, _, _, _, _, rfl, _⟩ := h; rfl; done) | (obtain ⟨_, _, _, _, _, _, rfl, _⟩ := h; rfl; done) | (obtain ⟨_, _, _, _, _, _, _, rfl, _⟩ := h; rfl; done) | (obtain ⟨_, _, _, _, _, _, _, _, rfl, _⟩ := h; rfl; done) | (obtain ⟨_, _, _, _, _, _, _, _, _, rfl, _⟩ := h; rfl; done) | (obtain ⟨_, _, _, _, _, _, _, _, _, _, rfl, _⟩ := h; rfl; done) | (obtain ⟨_, _, _, _, _, _, _, _, _, _, _, rfl, _⟩ := h; rfl; done) | (obtain ⟨_, _, _, _, _, _, _, _, _, _, _, _, rfl, _⟩ := h; rfl; done) | (obtain ⟨_, _, _, _, _, _, _, _, _, _, _, _, _, rfl, _⟩ := h; rfl; done) | (obtain ⟨_, _, _, _, _, _, _, _, _, _, _, _, _, _, rfl, _⟩ := h; rfl; done))) (rd_kinds9 K)
  have k__law_text := dv__law_text (P := P) (w := w) (b := b) (mg := mg) (sp := spText9) F__law_text F__law_kinds k__law_kinds F__law_draw k__law_draw (PySem.W.mg_none_of X G no_len) (by intro vs H Q E h; first | (obtain ⟨_, rfl, _⟩ := h; rfl; done) | (obtain ⟨_, _, rfl, _⟩ := h; rfl; done) | (obtain ⟨_, _, _, rfl, _⟩ := h; rfl; done) | (obtain ⟨_, _, _, _, rfl, _⟩ := h; rfl; done) | (obtain ⟨_, _, _, _, _, rfl, _⟩ := h; rfl; done) | (obtain ⟨_, _, _, _, _, _, rfl, _⟩ := h; rfl; done) | (obtain ⟨_, _, _, _, _, _, _, rfl, _⟩ := h; rfl; done) | (obtain ⟨_, _, _, _, _, _, _, _, rfl, _⟩ := h; rfl; done) | (obtain ⟨_, _, _, _, _, _, _, _, _, rfl, _⟩ := h; rfl; done) | (obtain ⟨_, _, _, _, _, _, _, _, _, _, rfl, _⟩ := h; rfl; done) | (obtain ⟨_, _, _, _, _, _, _, _, _, _, _, rfl, _⟩ := h; rfl; done) | (obtain ⟨_, _, _, _, _, _, _, _, _, _, _, _, rfl, _⟩ := h; rfl; done) | (obtain ⟨_, _, _, _, _, _, _, _, _, _, _, _, _, rfl, _⟩ := h; rfl; done) | (obtain ⟨_, _, _, _, _, _, _, _, _, _, _, _, _, _, rfl, _⟩ := h; rfl; done) | (rcases h with h | h <;> first | (obtain ⟨_, rfl, _⟩ := h; rfl; done) | (obtain ⟨_, _, rfl, _⟩ := h; rfl; done) | (obtain ⟨_, _, _, rfl, _⟩ := h; rfl; done) | (obtain ⟨_, _, _, _, rfl, _⟩ := h; rfl; done) | (obtain ⟨_, _, _, _, _, rfl, _⟩ := h; rfl; done) | (obtain ⟨_, _, _, _, _, _, rfl, _⟩ := h; rfl; done) | (obtain ⟨_, _, _, _, _, _, _, rfl, _⟩ := h; rfl; done) | (obtain ⟨_, _, _, _, _, _, _, _, rfl, _⟩ := h; rfl; done) | (obtain ⟨_, _, _, _, _, _, _, _, _, rfl, _⟩ := h; rfl; done) | (obtain ⟨_, _, _, _, _, _, _, _, _, _, rfl, _⟩ := h; rfl; done) | (obtain ⟨_, _, _, _, _, _, _, _, _, _, _, rfl, _⟩ := h; rfl; done) | (obtain ⟨_, _, _, _, _, _, _, _, _, _, _, _, rfl, _⟩ := h; rfl; done) | (obtain ⟨_, _, _, _, _, _, _, _, _, _, _, _, _, rfl, _⟩ := h; rfl; done) | (obtain ⟨_, _, _, _, _, _, _, _, _, _, _, _, _, _, rfl, _⟩ := h; rfl; done))) (rd_text9 K)
  have k_law := dv_law (P := P) (w := w) (b := b) (mg := mg) (sp := spLaw K [P_is_name, P_number_by]) F_law (PySem.W.mg_none_of X G no_range) (PySem.W.mg_none_of X G no_max) (PySem.W.mg_none_of X G no_min) (PySem.W.mg_none_of X G no_len) F__law_pen k__law_pen F__law_text k__law_text (PySem.W.mg_none_of X G no_repr) F__law_told k__law_told F__law_read k__law_read (by intro vs H Q E h; first | (obtain ⟨_, rfl, _⟩ := h; rfl; done) | (obtain ⟨_, _, rfl, _⟩ := h; rfl; done) | (obtain ⟨_, _, _, rfl, _⟩ := h; rfl; done) | (obtain ⟨_, _, _, _, rfl, _⟩ := h; rfl; done) | (obtain ⟨_, _, _, _, _, rfl, _⟩ := h; rfl; done) | (obtain ⟨_, _, _, _, _, _, rfl, _⟩ := h; rfl; done) | (obtain ⟨_, _, _, _, _, _, _, rfl, _⟩ := h; rfl; done) | (obtain ⟨_, _, _, _, _, _, _, _, rfl, _⟩ := h; rfl; done) | (obtain ⟨_, _, _, _, _, _, _, _, _, rfl, _⟩ := h; rfl; done) | (obtain ⟨_, _, _, _, _, _, _, _, _, _, rfl, _⟩ := h; rfl; done) | (obtain ⟨_, _, _, _, _, _, _, _, _, _, _, rfl, _⟩ := h; rfl; done) | (obtain ⟨_, _, _, _, _, _, _, _, _, _, _, _, rfl, _⟩ := h; rfl; done) | (obtain ⟨_, _, _, _, _, _, _, _, _, _, _, _, _, rfl, _⟩ := h; rfl; done) | (obtain ⟨_, _, _, _, _, _, _, _, _, _, _, _, _, _, rfl, _⟩ := h; rfl; done) | (rcases h with h | h <;> first | (obtain ⟨_, rfl, _⟩ := h; rfl; done) | (obtain ⟨_, _, rfl, _⟩ := h; rfl; done) | (obtain ⟨_, _, _, rfl, _⟩ := h; rfl; done) | (obtain ⟨_, _, _, _, rfl, _⟩ := h; rfl; done) | (obtain ⟨_, _, _, _, _, rfl, _⟩ := h; rfl; done) | (obtain ⟨_, _, _, _, _, _, rfl, _⟩ := h; rfl; done) | (obtain ⟨_, _, _, _, _, _, _, rfl, _⟩ := h; rfl; done) | (obtain ⟨_, _, _, _, _, _, _, _, rfl, _⟩ := h; rfl; done) | (obtain ⟨_, _, _, _, _, _, _, _, _, rfl, _⟩ := h; rfl; done) | (obtain ⟨_, _, _, _, _, _, _, _, _, _, rfl, _⟩ := h; rfl; done) | (obtain ⟨_, _, _, _, _, _, _, _, _, _, _, rfl, _⟩ := h; rfl; done) | (obtain ⟨_, _, _, _, _, _, _, _, _, _, _, _, rfl, _⟩ := h; rfl; done) | (obtain ⟨_, _, _, _, _, _, _, _, _, _, _, _, _, rfl, _⟩ := h; rfl; done) | (obtain ⟨_, _, _, _, _, _, _, _, _, _, _, _, _, _, rfl, _⟩ := h; rfl; done))) (rd_law K (L := [P_is_name, P_number_by]) (P1 := P_is_name) (by simp))
  exact k_law
end Wg
open PySem PySem.W PyProof.Rows
set_option maxHeartbeats 0 in
theorem PySem.Challenge.cw_wagoncalls_k09_towns_told_too_long_holds : PySem.Challenge.rw_wagoncalls_k09_towns_told_too_long.Holds := by
  w_on; o_law; k_head; (case hw => w_witness2)
  k_fill
  refine Wg.walk_endT (l := PySem.Challenge.rw_wagoncalls_k09_towns_told_too_long) (n := 63) (k := 10) (x := "script") (sp := fun K L => Wg.spLaw K L) rfl (by decide) rfl ⟨⟨rfl, by decide, by decide⟩, rfl⟩ (fun w h Y => PySem.W.kIn_of Y) ?F ?S
  case S =>
    intro K L H a ns hl ho ht hs
    exact ⟨a, ns, rfl, Wg.Scr.ofT ho hs, hl, ht, fun _ => rfl⟩
  case F =>
    intro w mg fa h KX G hmg
    refine' Wg.all_mk KX G hmg ?ad_NoText ?ad_WagonError ?ad_NoMoment ?ad_NoLog ?ad_NoDeed ?ad_NoCall ?ad_Late ?ad_TooMany ?ad_NoTown ?ad_NoTelling ?ad_NoRow ?ad_NoPaper ?wga ?wrd ?wfi ?oc_NoText ?sa_NoText ?ex_NoText ?ty_NoText ?kc_NoText ?na_NoText_row ?F9 ?fi_NoText____init__ ?ifn_NoText____init__ ?lo_NoText____init__ ?co_NoText____init__ ?kp_NoText____init__ ?ad_is_whole ?lo_is_whole ?co_is_whole ?kp_is_whole ?ad_is_within ?lo_is_within ?co_is_within ?kp_is_within ?ad_is_name ?lo_is_name ?co_is_name ?kp_is_name ?tb_is_name ?re_is_name ?ad_number_by ?lo_number_by ?co_number_by ?kp_number_by ?tb_number_by ?re_number_by ?ad__is_drive ?lo__is_drive ?co__is_drive ?kp__is_drive ?ad_is_road ?lo_is_road ?co_is_road ?kp_is_road ?ad__taken_stand ?lo__taken_stand ?co__taken_stand ?kp__taken_stand ?ad__taken_reach ?lo__taken_reach ?co__taken_reach ?kp__taken_reach ?ad__taken_place ?lo__taken_place ?co__taken_place ?kp__taken_place ?ad__drive_by ?lo__drive_by ?co__drive_by ?kp__drive_by ?ad__taken_road ?lo__taken_road ?co__taken_road ?kp__taken_road ?ad__taken ?lo__taken ?co__taken ?kp__taken ?ad_town_by ?lo_town_by ?co_town_by ?kp_town_by ?ad__law_pen ?lo__law_pen ?co__law_pen ?kp__law_pen ?ad__law_draw ?lo__law_draw ?co__law_draw ?kp__law_draw ?ad__law_word ?lo__law_word ?co__law_word ?kp__law_word ?ad__law_names ?lo__law_names ?co__law_names ?kp__law_names ?ad__law_is_name ?lo__law_is_name ?co__law_is_name ?kp__law_is_name ?ad__law_whole ?lo__law_whole ?co__law_whole ?kp__law_whole ?ad__law_is_way ?lo__law_is_way ?co__law_is_way ?kp__law_is_way ?ad__law_is_road ?lo__law_is_road ?co__law_is_road ?kp__law_is_road ?ad__law_marks ?lo__law_marks ?co__law_marks ?kp__law_marks ?ad__law_number ?lo__law_number ?co__law_number ?kp__law_number ?ad__law_way_in ?lo__law_way_in ?co__law_way_in ?kp__law_way_in ?ad__law_can_stand ?lo__law_can_stand ?co__law_can_stand ?kp__law_can_stand ?ad__law_read ?lo__law_read ?co__law_read ?kp__law_read ?ad__law_told ?lo__law_told ?co__law_told ?kp__law_told ?ad__law_minutes_word ?lo__law_minutes_word ?co__law_minutes_word ?kp__law_minutes_word ?ad__law_road_row ?lo__law_road_row ?co__law_road_row ?kp__law_road_row ?ad__law_kinds ?lo__law_kinds ?co__law_kinds ?kp__law_kinds ?ad__law_text ?lo__law_text ?co__law_text ?kp__law_text ?ad_law ?lo_law ?co_law ?kp_law ?cn_LONGEST_NAME ?cn_LETTERS ?cn_NAME_SIGNS ?cn_FIGURES ?cn_MOST_MINUTES ?cn_MOST_STANDS ?cn_MOST_REACH ?cn_MOST_PLACES ?cn_NONE_TEXT ?cn_MOST_ROADS ?no_isinstance ?no_int ?no_bool ?no_str ?no_len ?no_all ?no_tuple ?no_enumerate ?no_abs ?no_range ?no_ValueError ?no_max ?no_min ?no_repr
    (case ad_NoText => k_is)
    (case ad_WagonError => k_is)
    (case ad_NoMoment => k_is)
    (case ad_NoLog => k_is)
    (case ad_NoDeed => k_is)
    (case ad_NoCall => k_is)
    (case ad_Late => k_is)
    (case ad_TooMany => k_is)
    (case ad_NoTown => k_is)
    (case ad_NoTelling => k_is)
    (case ad_NoRow => k_is)
    (case ad_NoPaper => k_is)
    (case wga => k_is)
    (case wrd => k_is)
    (case wfi => k_is)
    (case oc_NoText => k_is)
    (case sa_NoText => k_is)
    (case ex_NoText => k_is)
    (case ty_NoText => k_is)
    (case kc_NoText => k_is)
    (case na_NoText_row => k_is)
    (case F9 => refine ⟨⟨?_, ?_, ?_, ?_, ?_, ?_, ?_, ?_, ?_⟩, ?_, ?_, ?_, ?_, ?_, ?_⟩ <;> first | k_is | rfl | decide +kernel)
    (case fi_NoText____init__ => k_is)
    (case ifn_NoText____init__ => k_is)
    (case lo_NoText____init__ => k_is)
    (case co_NoText____init__ => k_is)
    (case kp_NoText____init__ => k_is)
    (case ad_is_whole => k_is)
    (case lo_is_whole => k_is)
    (case co_is_whole => k_is)
    (case kp_is_whole => k_is)
    (case ad_is_within => k_is)
    (case lo_is_within => k_is)
    (case co_is_within => k_is)
    (case kp_is_within => k_is)
    (case ad_is_name => k_is)
    (case lo_is_name => k_is)
    (case co_is_name => k_is)
    (case kp_is_name => k_is)
    (case tb_is_name => first | k_is | rfl | decide +kernel)
    (case re_is_name => first | k_is | rfl | decide +kernel)
    (case ad_number_by => k_is)
    (case lo_number_by => k_is)
    (case co_number_by => k_is)
    (case kp_number_by => k_is)
    (case tb_number_by => first | k_is | rfl | decide +kernel)
    (case re_number_by => first | k_is | rfl | decide +kernel)
    (case ad__is_drive => k_is)
    (case lo__is_drive => k_is)
    (case co__is_drive => k_is)
    (case kp__is_drive => k_is)
    (case ad_is_road => k_is)
    (case lo_is_road => k_is)
    (case co_is_road => k_is)
    (case kp_is_road => k_is)
    (case ad__taken_stand => k_is)
    (case lo__taken_stand => k_is)
    (case co__taken_stand => k_is)
    (case kp__taken_stand => k_is)
    (case ad__taken_reach => k_is)
    (case lo__taken_reach => k_is)
    (case co__taken_reach => k_is)
    (case kp__taken_reach => k_is)
    (case ad__taken_place => k_is)
    (case lo__taken_place => k_is)
    (case co__taken_place => k_is)
    (case kp__taken_place => k_is)
    (case ad__drive_by => k_is)
    (case lo__drive_by => k_is)
    (case co__drive_by => k_is)
    (case kp__drive_by => k_is)
    (case ad__taken_road => k_is)
    (case lo__taken_road => k_is)
    (case co__taken_road => k_is)
    (case kp__taken_road => k_is)
    (case ad__taken => k_is)
    (case lo__taken => k_is)
    (case co__taken => k_is)
    (case kp__taken => k_is)
    (case ad_town_by => k_is)
    (case lo_town_by => k_is)
    (case co_town_by => k_is)
    (case kp_town_by => k_is)
    (case ad__law_pen => k_is)
    (case lo__law_pen => k_is)
    (case co__law_pen => k_is)
    (case kp__law_pen => k_is)
    (case ad__law_draw => k_is)
    (case lo__law_draw => k_is)
    (case co__law_draw => k_is)
    (case kp__law_draw => k_is)
    (case ad__law_word => k_is)
    (case lo__law_word => k_is)
    (case co__law_word => k_is)
    (case kp__law_word => k_is)
    (case ad__law_names => k_is)
    (case lo__law_names => k_is)
    (case co__law_names => k_is)
    (case kp__law_names => k_is)
    (case ad__law_is_name => k_is)
    (case lo__law_is_name => k_is)
    (case co__law_is_name => k_is)
    (case kp__law_is_name => k_is)
    (case ad__law_whole => k_is)
    (case lo__law_whole => k_is)
    (case co__law_whole => k_is)
    (case kp__law_whole => k_is)
    (case ad__law_is_way => k_is)
    (case lo__law_is_way => k_is)
    (case co__law_is_way => k_is)
    (case kp__law_is_way => k_is)
    (case ad__law_is_road => k_is)
    (case lo__law_is_road => k_is)
    (case co__law_is_road => k_is)
    (case kp__law_is_road => k_is)
    (case ad__law_marks => k_is)
    (case lo__law_marks => k_is)
    (case co__law_marks => k_is)
    (case kp__law_marks => k_is)
    (case ad__law_number => k_is)
    (case lo__law_number => k_is)
    (case co__law_number => k_is)
    (case kp__law_number => k_is)
    (case ad__law_way_in => k_is)
    (case lo__law_way_in => k_is)
    (case co__law_way_in => k_is)
    (case kp__law_way_in => k_is)
    (case ad__law_can_stand => k_is)
    (case lo__law_can_stand => k_is)
    (case co__law_can_stand => k_is)
    (case kp__law_can_stand => k_is)
    (case ad__law_read => k_is)
    (case lo__law_read => k_is)
    (case co__law_read => k_is)
    (case kp__law_read => k_is)
    (case ad__law_told => k_is)
    (case lo__law_told => k_is)
    (case co__law_told => k_is)
    (case kp__law_told => k_is)
    (case ad__law_minutes_word => k_is)
    (case lo__law_minutes_word => k_is)
    (case co__law_minutes_word => k_is)
    (case kp__law_minutes_word => k_is)
    (case ad__law_road_row => k_is)
    (case lo__law_road_row => k_is)
    (case co__law_road_row => k_is)
    (case kp__law_road_row => k_is)
    (case ad__law_kinds => k_is)
    (case lo__law_kinds => k_is)
    (case co__law_kinds => k_is)
    (case kp__law_kinds => k_is)
    (case ad__law_text => k_is)
    (case lo__law_text => k_is)
    (case co__law_text => k_is)
    (case kp__law_text => k_is)
    (case ad_law => k_is)
    (case lo_law => k_is)
    (case co_law => k_is)
    (case kp_law => k_is)
    (case cn_LONGEST_NAME => k_is)
    (case cn_LETTERS => k_is)
    (case cn_NAME_SIGNS => k_is)
    (case cn_FIGURES => k_is)
    (case cn_MOST_MINUTES => k_is)
    (case cn_MOST_STANDS => k_is)
    (case cn_MOST_REACH => k_is)
    (case cn_MOST_PLACES => k_is)
    (case cn_NONE_TEXT => k_is)
    (case cn_MOST_ROADS => k_is)
    (case no_isinstance => k_is)
    (case no_int => k_is)
    (case no_bool => k_is)
    (case no_str => k_is)
    (case no_len => k_is)
    (case no_all => k_is)
    (case no_tuple => k_is)
    (case no_enumerate => k_is)
    (case no_abs => k_is)
    (case no_range => k_is)
    (case no_ValueError => k_is)
    (case no_max => k_is)
    (case no_min => k_is)
    (case no_repr => k_is)
