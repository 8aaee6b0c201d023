import PyProof.Rows.All
import Wide.All
import OpenK.AllK
import Wide.FinOn
import HandS.Base
import HandS.Call
import HandS.List
import HandS.Comp
import HandS.Ends
import HandS.Dict
import HandS.Iter
import HandS.Text
import HandS.Words
import PyProof.AutoSeq1
import PyProof.ReprRoads
import PyProof.CallFns
import HandS.IsInst
import HandS.Flow
import HandS.Style
import PyProof.FitsInt
import PyProof.StrLawsRepr
import HandS.Strs
import HandS.Zip
import HandS.Rev
import KE.GoesMore
import PyProof.EnumMake
import PyProof.Draws
import HandS.NoneIn
import KE.SortData
import HandS.Conv
import KE.DataCmp
import KE.DataMinMax
import PyProof.Rows.RowBridgeK
import KE.DataFind
import HandS.SetFor
import PyProof.Rows.CallKwBuiltin
import HandS.DictComp
import PyProof.DictUpdate
import HandS.Star
import HandS.Deep
import HandS.AnyAll
import HandS.GenOver
import PyProof.GenQ
import PyProof.ConsumeS
import HandS.EndTab
import KE.KStrOpen
import PyProof.ListStr
import PyProof.StrOps2
import KE.KxField
import HandS.FStr
import HandS.More
import KE.KRevSl
import HandS.Exc
import HandS.ExcInit
import HandS.ExcField
import HandS.ExcIs
import HandS.ExcOwn
import HandS.TryOnly
import HandS.WordsExc
import KE.KExcIs
import PyProof.IsRules
import PySem.Challenge.RW_wagoncalls_k23_charts_and_ways_asked_bet
set_option Elab.async false
set_option linter.all false
set_option maxRecDepth 100000
set_option maxHeartbeats 4000000
/-! Wagon, part 1: promises of defs that are called where no repr runs (so that what repr tells is known). -/
namespace Wg
open PySem PySem.Spec PyProof.Rows L2

/-- room for calls, and no repr under way -/
structure Rm (k : Nat) (A : Around) : Prop where
  rm : Room k A
  gd : A.guards = some []
theorem Rm.mono {j k : Nat} {A : Around} (r : Rm k A) (h : j ≤ k) : Rm j A := ⟨r.rm.mono h, r.gd⟩
theorem Rm.deep {k : Nat} {A : Around} (r : Rm (k + 1) A) (v : Env) : Rm k (A.deeper v) := ⟨r.rm.deeper v, r.gd⟩

/-- the def at f keeps the promise sp -/
structure Keeps (P : Program) (w : World) (K : PySem.W.Frag) (mg : Str → Option Value) (b : Heap) (CX : CXT) (k : Nat) (f : Addr) (fd : FuncData) (ps : List Str) (sp : Sp) : Prop where
  len : ∀ vs H Q E, sp vs H Q E → vs.length = ps.length
  run : ∀ (A : Around) (o : List Env) (s : Shared) (H : Hp) (g : Args) (us : List Value) (vs : List V) (Q : VK) (E : XK),
    Rm k A → Env0 P w K mg b A o s H → BindsTo s fd g (ps.zip us) → Vals vs us → sp vs H Q E →
      codeAny (model P w) A (.call (.ref f) g) (CR CX o P w H s Q E) s
theorem Keeps.up {P : Program} {w : World} {K : PySem.W.Frag} {mg : Str → Option Value} {b : Heap} {CX : CXT} {j k : Nat} {f : Addr} {fd : FuncData} {ps : List Str} {sp : Sp}
    (F : Keeps P w K mg b CX j f fd ps sp) (h : j ≤ k) : Keeps P w K mg b CX k f fd ps sp :=
  ⟨F.len, fun A o s H g us vs Q E hr => F.run A o s H g us vs Q E (hr.mono h)⟩
theorem Keeps.weak {P : Program} {w : World} {K : PySem.W.Frag} {mg : Str → Option Value} {b : Heap} {CX : CXT} {k : Nat} {f : Addr} {fd : FuncData} {ps : List Str} {sp sp' : Sp}
    (F : Keeps P w K mg b CX k f fd ps sp) (h : ∀ vs H Q E, sp' vs H Q E → sp vs H Q E) : Keeps P w K mg b CX k f fd ps sp' :=
  ⟨fun vs H Q E q => F.len vs H Q E (h _ _ _ _ q), fun A o s H g us vs Q E h1 h2 h3 h4 h5 => F.run A o s H g us vs Q E h1 h2 h3 h4 (h _ _ _ _ h5)⟩

section
variable {X : Cx} {CX : CXT} {k : Nat} {f : Addr} {fd : FuncData} {ps : List Str} {sp : Sp} {E : XK} {x : Str} {p pos : Pos} {e : Expr} {es : List Expr} {t : TA}
theorem go_fn {pins : List (Addr × Obj)} {σ : L2.St} {H : Hp} {s : Shared} {Q : VK} {us : List Value} {vs : List V}
    (F : Keeps X.prog X.w X.K X.mg X.base CX k f fd ps sp) (hr : Rm k X.A) (hb : Binds X.K fd ps []) (hx : Passes CX X E)
    (I : Inv X pins σ H s) (r : Vals vs us) (h : sp vs H Q E) : wpAny (model X.prog X.w) X.A (call (.ref f) us) (EP X pins σ Q) X.xe s := by
  have hl : (us ++ []).length = ps.length := by
    rw [List.append_nil, ← r.length]
    exact F.len _ _ _ _ h
  have hbs := hb s us I.kIn hl
  rw [List.append_nil] at hbs
  have run := F.run X.A X.stack s H ⟨us, []⟩ us vs Q E hr I.env0 hbs r h
  refine wpAny_call (codeAny_mono run fun res s' hq => ?_)
  match res, hq with
  | .error e, hq => exact hx pins σ H s e s' I hq
  | .ok (.ret u), hq => exact I.after hq
  | .ok .next, hq => exact hq.elim
  | .ok .brk, hq => exact hq.elim
  | .ok .cont, hq => exact hq.elim
/-- f(e, ..), f a def of the text -/
def tGo (sp : Sp) (E : XK) (t : TA) : TE := fun σ H Q => t σ H fun vs H1 => sp vs H1 Q E
theorem pe_go (F : Keeps X.prog X.w X.K X.mg X.base CX k f fd ps sp) (hr : Rm k X.A) (hg : Gl X x) (hm : X.mg x = some (.ref f)) (hk : PySem.W.keepIn X.K (.ref f) = true)
    (hb : Binds X.K fd ps []) (hx : Passes CX X E) (ha : PA X (e :: es) t) (hdb : (x == ("__debug__" : Str)) = false := by decide)
    (he : starEach (e :: es) X.env = (false, eval e X.env) :: starEach es X.env := by rfl) (hpl : (backTo pos (starEach es X.env)).any (·.1) = false := by rfl) :
    PE X (.Call (.Name x p) (e :: es) [] pos) (tGo sp E t) := by
  constructor
  intro pins s σ H Q I h
  refine wpAny_Call_Name_kw (ld_glob I hg hm ?_ hdb)
  have args := ha.run pos pins s σ H _ I h
  refine PySem.W.callWith_K (h₀ := X.base) I.ok.mod.kin hk (thn args fun us s1 hh => ?_) he hpl
  obtain ⟨vs, H1, I1, r, q⟩ := hh
  exact ⟨I1.kIn, go_fn F hr hb hx I1 r q⟩
theorem pe_go0 (F : Keeps X.prog X.w X.K X.mg X.base CX k f fd ps sp) (hr : Rm k X.A) (hg : Gl X x) (hm : X.mg x = some (.ref f)) (hk : PySem.W.keepIn X.K (.ref f) = true)
    (hb : Binds X.K fd ps []) (hx : Passes CX X E) (hdb : (x == ("__debug__" : Str)) = false := by decide) : PE X (.Call (.Name x p) [] [] pos) (tGo sp E tNil) := by
  constructor
  intro pins s σ H Q I h
  refine wpAny_Call_Name_kw (ld_glob I hg hm ?_ hdb)
  exact PySem.W.callWith_K0 I.kIn hk (go_fn (us := []) F hr hb hx I .nil h)
end

section
variable {P : Program} {w : World} {K : PySem.W.Frag} {mg : Str → Option Value} {b : Heap}
/-- a def keeps its promise, by its body -/
theorem keeps_of {CX : CXT} {x qual : Str} {st : Stmt} {f : Addr} {fd : FuncData} {N ps : List Str} {k : Nat} {sp : Sp} (F : Fun K x qual st f fd) (S : FnScope N ps (defScope st))
    (len : ∀ vs H Q E, sp vs H Q E → vs.length = ps.length)
    (body : ∀ (cdv : Value) (A : Around) (o : List Env) (s : Shared) (H : Hp) (vs : List V) (Q : VK) (E : XK), Rm k (A.deeper (envOfC qual (defScope st) s.heap.objs.size f cdv)) → sp vs H Q E →
      ∃ t, PSs (cxOf CX P w K mg b N qual (defScope st) f cdv A o s H E) (defBody st) t ∧ t { nx := fun _ H' => Q .non H', rt := Q } (start N vs) H) :
    Keeps P w K mg b CX (k + 1) f fd ps sp := by
  obtain ⟨oc, od, kV, doc, pm, an, cdv, ct, osl, rfl, lk, hcd⟩ := F.ex
  constructor
  · exact len
  intro A o s H g us vs Q E hr e0 hb r hsp
  have hl := len _ _ _ _ hsp
  have up : ∀ {a : Addr} {ob : Obj}, b.get? a = some ob → s.heap.get? a = some ob := fun {a ob} q => (e0.bs a ob q).1
  have inK : K.In s.heap := e0.mod.kin.keeps fun _ _ q => up q
  have nolim : s.heap.NoLimit := e0.mod.nolimit.keeps fun _ _ q => up q
  have kinds : ∀ y ∈ ps.zip us, (defScope st).names.lookup y.1 = some .local ∨ ((defScope st).names.lookup y.1 = some .cell ∧ ((cellsFrom (s.heap.objs.size + 1) (defScope st).names []).lookup y.1).isSome = true) := by
    rintro ⟨n, v⟩ hy
    have hn := S.par n (List.of_mem_zip hy).1
    exact hn.imp id fun q => ⟨q, PySem.W.cellsFrom_some _ _ _ (.inl q)⟩
  have recd := PySem.W.codeRec_of inK hcd
  refine codeAny_call_function hr.rm.depth (inK _ _ lk) rfl S.co S.gen rfl recd (hb _ _ _ _ ?_)
  refine wpAny_newFunctionEnv_cells S.kind kinds ?_
  intro env he s1 y
  subst he
  refine ⟨nolim.keeps y.toInCall.keep, codeAny_func ?_⟩
  obtain ⟨t, ht, hq⟩ := body cdv A o s H vs Q E (hr.deep _) hsp
  have I := inv_start (CX := CX) (E := E) S hr.rm.hd e0 hl r y
  refine wpAny_mono (ht.run [] s1 (start N vs) H _ I hq) ?_ fun _ _ q => q
  intro fl s' hs
  match fl, hs with
  | .ret u, hs =>
    obtain ⟨v, σ', H', J, rv, q⟩ := hs
    exact ⟨v, H', J.os, J.bare, J.base, J.hok, rv, q⟩
  | .next, hs =>
    obtain ⟨σ', H', J, q⟩ := hs
    exact ⟨.non, H', J.os, J.bare, J.base, J.hok, rfl, q⟩
  | .brk, hs => exact hs.elim fun _ z => z.elim fun _ y => y.2.elim
  | .cont, hs => exact hs.elim fun _ z => z.elim fun _ y => y.2.elim
theorem keeps0 {x qual : Str} {st : Stmt} {f : Addr} {fd : FuncData} {N ps : List Str} {k : Nat} {sp : Sp} (F : Fun K x qual st f fd) (S : FnScope N ps (defScope st))
    (len : ∀ vs H Q E, sp vs H Q E → vs.length = ps.length)
    (body : ∀ (cdv : Value) (A : Around) (o : List Env) (s : Shared) (H : Hp) (vs : List V) (Q : VK) (E : XK), Rm k (A.deeper (envOfC qual (defScope st) s.heap.objs.size f cdv)) → sp vs H Q E →
      ∃ t, PSs (cxOf CX0 P w K mg b N qual (defScope st) f cdv A o s H E).nox (defBody st) t ∧ t { nx := fun _ H' => Q .non H', rt := Q } (start N vs) H) :
    Keeps P w K mg b CX0 (k + 1) f fd ps sp :=
  keeps_of F S len fun cdv A o s H vs Q E hr h => (body cdv A o s H vs Q E hr h).elim fun t q => ⟨t, q.1.nox, q.2⟩
end

/-- the law's call, from its promise -/
theorem law_end {P : Program} {w : World} {K : PySem.W.Frag} {mg mb : Str → Option Value} {k : Nat} {fa a : Addr} {fd : FuncData} {x : Str} {sp : Sp} {s : Shared} {vs : List Value} {ns : List Int}
    (KX : K.In s.heap) (hns : s.heap.Ns mainGlobals mg) (hb : s.heap.Ns builtinsNs mb) (hbb : ∀ x : Str, x ≠ "__name__" → mb x = bootBuiltins x) (hlim : s.heap.NoLimit) (hg : s.gens = #[])
    (ha : s.heap.get? a = some { cls := .type "list", data := .seq vs.toArray }) (hi : IntsAre vs ns) (hl : ns.length ≤ sizeLine) (hr : Rm k callerA)
    (F : ∀ b : Heap, K.In b → b.Ns mainGlobals mg → Keeps P w K mg b CX0 k fa fd [x] sp) (hbind : ∀ (s : Shared) (u : Value), BindsTo s fd ⟨[u], []⟩ [(x, u)])
    (hsp : ∀ H : Hp, Only H → SqL K H a (ns.map V.int) → sp [.ref a] H (fun v _ => v = .bl true) fun _ _ _ => False) :
    codeAny (model P w) callerA (.call (.ref fa) ⟨[.ref a], []⟩) (fun r s' => r = .ok (.ret (.bool true)) ∧ OldK s.heap s'.heap ∧ s'.os = s.os ∧ AllBare s'.gens) s := by
  -- a promise at callerA alone, dressed as one of the layer's at that place
  have lenV := hi.length
  have rv := vals_ints hi
  suffices core : ∀ H : Hp, Only H → SqL K H a (ns.map V.int) → HOk P w H s.heap → (∀ c, H c ≠ none → c = a) → (H a ≠ none → K.lookup a = none) →
      codeAny (model P w) callerA (.call (.ref fa) ⟨[.ref a], []⟩) (fun r s' => r = .ok (.ret (.bool true)) ∧ OldK s.heap s'.heap ∧ s'.os = s.os ∧ AllBare s'.gens) s by
    match hk : K.lookup a with
    | some o =>
      have eo := (KX a o hk).symm.trans ha
      obtain rfl := Option.some.inj eo
      refine core (fun _ => none) (fun _ => .inl rfl) (.inr ⟨_, vs.toArray, _, hk, rfl, rfl, rfl, ?_, by simpa using rv⟩) ?_ (fun c z => absurd rfl z) (fun z => absurd rfl z)
      · rw [List.size_toArray, lenV]; exact hl
      · intro c u z; exact nomatch z
    | none =>
      let H0 : Hp := fun c => if c = a then some (.frz { cls := .type "list", data := .seq vs.toArray } (.lst (ns.map V.int))) else none
      have at0 : H0 a = some (.frz { cls := .type "list", data := .seq vs.toArray } (.lst (ns.map V.int))) := if_pos rfl
      have ne0 : ∀ c, c ≠ a → H0 c = none := fun c hc => if_neg hc
      refine core H0 (fun c => ?_) (.inl (.inr ⟨_, at0⟩)) (fun c u z => ?_) (fun c z => ?_) fun _ => hk
      · by_cases hc : c = a
        · exact .inr ⟨_, _, by rw [hc]; exact at0⟩
        · exact .inl (ne0 c hc)
      · by_cases hc : c = a
        · subst hc
          obtain rfl := Option.some.inj (at0.symm.trans z)
          exact ⟨ha, by rw [List.length_map]; exact hl, vs, _, rv, ha⟩
        · exact nomatch (ne0 c hc).symm.trans z
      · exact Classical.byContradiction fun hc => z (ne0 c hc)
  intro H hO hS hok hA hK
  have only : ∀ {c : Addr} {u : HO}, H c = some u → c = a := fun {c u} q => hA c (by rw [q]; exact Option.some_ne_none u)
  have stays : ∀ {c : Addr} {o : Obj} {es : Array DictEntry} {ep : Nat}, s.heap.get? c = some o → o.data = .dict es ep → H c = none := by
    intro c o es ep e d
    match q : H c with
    | none => rfl
    | some u =>
      rw [only q, ha] at e
      obtain rfl := Option.some.inj e
      cases (show Data.seq vs.toArray _ = Data.dict es ep from d)
  have ns' : ∀ {c : Addr} {m : Str → Option Value}, s.heap.Ns c m → (hidT s.heap H).Ns c m := by
    rintro c m ⟨o, es, ep, e, d, r⟩
    exact ⟨o, es, ep, hidT_get e (stays e d), d, r⟩
  have kin : K.In (hidT s.heap H) := by
    intro c o e
    refine hidT_get (KX c o e) ?_
    match q : H c with
    | none => rfl
    | some u =>
      have ec := only q
      subst ec
      rw [hK (by rw [q]; exact Option.some_ne_none u)] at e
      cases e
  obtain ⟨mc, l1, l2⟩ := hlim
  have M : Mod K mg (hidT s.heap H) := ⟨kin, ns' hns, ⟨mb, ns' hb, hbb⟩, ⟨mc, ns' l1, l2⟩⟩
  have e0 : Env0 P w K mg (hidT s.heap H) callerA [] s H :=
    ⟨rfl, M, fun c o e => of_hidT e, Nat.le_of_eq (hidT_size _ _), trivial, fun c hc => (List.not_mem_nil hc).elim, hok, .of_eq hg⟩
  have run := (F _ kin (ns' hns)).run callerA [] s H ⟨[.ref a], []⟩ [.ref a] [.ref a] _ _ hr e0 (hbind s (.ref a)) (.cons rfl .nil) (hsp H hO hS)
  refine codeAny_mono run fun res s' hq => ?_
  match res, hq with
  | .error e, hq => exact hq.elim
  | .ok .next, hq => exact hq.elim
  | .ok .brk, hq => exact hq.elim
  | .ok .cont, hq => exact hq.elim
  | .ok (.ret u), hq =>
    obtain ⟨v, H', os, bare, un, hok', r', q⟩ := hq
    obtain rfl : v = .bl true := q
    obtain rfl : u = Value.bool true := r'
    refine ⟨rfl, OldK.of_keep fun c o e => ?_, os, bare⟩
    rcases hO c with z | ⟨ob, xs, z⟩
    · exact un.keep c o e z List.not_mem_nil List.not_mem_nil
    · have z1 := (hok c _ z).1
      have z2 := (hok' c _ (un.frzs c ob _ z)).1
      exact z2.trans (z1.symm.trans e)

theorem walk_end {l : PySem.W.OpenLaw} {n k : Nat} {q : Program} {loose : List Str} {XP : (Str → Option Value) → Heap → Prop} {YP : World → Heap → Prop} {d : DefRec} {K : Params → PySem.W.Frag} {sp : PySem.W.Frag → Sp} {x : Str}
    (hn : l.most = some n) (hn2 : n ≤ sizeLine) (hdf : d.params.defaults = []) (hr : Rm k callerA) (hY : ∀ (w : World) (h : Heap), YP w h → (K w.params).In h)
    (F : ∀ (w : World) (mg : Str → Option Value) (fa : Addr) (h : Heap), (K w.params).In h → h.Ns mainGlobals mg → mg d.name = some (.ref fa) →
      ∃ fd : FuncData, (∀ (s : Shared) (u : Value), BindsTo s fd ⟨[u], []⟩ [(x, u)]) ∧
        ∀ b : Heap, (K w.params).In b → b.Ns mainGlobals mg → Keeps l.prog w (K w.params) mg b CX0 k fa fd [x] (sp (K w.params)))
    (hsp : ∀ (K : PySem.W.Frag) (H : Hp) (a : Addr) (ns : List Int), ns.length ≤ n → Only H → SqL K H a (ns.map V.int) → sp K [.ref a] H (fun v _ => v = .bl true) fun _ _ _ => False) :
    PySem.W.WalkO q loose XP YP l.row.toRowW d [] (fun f vs => PySem.call f vs) := by
  refine Att.attach_call hn hdf ?_
  intro w s₀ s₁ mg mb fa o pm cd doc a vs ns G Y ho hd hcd hmg hobj hints hlen hg
  have kin := hY w _ Y
  obtain ⟨fd, hb, hF⟩ := F w mg fa _ kin G.T.g hmg
  exact law_end kin G.T.g G.T.b G.T.builtins G.T.nolimit hg hobj hints (Nat.le_trans hlen hn2) hr hF hb fun H hO hS => hsp _ H a ns hlen hO hS
end Wg

/-! Wagon, part 2: heaps that are not written out, and the rules of operators, calls and methods in that style. -/
namespace Wg
open PySem PySem.Spec PyProof.Rows L2

/-- all but what stands at S is kept -/
def Keep (S : List Addr) (H H' : Hp) : Prop := ∀ b o, b ∉ S → H b = some o → H' b = some o
theorem Keep.at {S : List Addr} {H H' : Hp} {b : Addr} {o : HO} (k : Keep S H H') (n : b ∉ S) (h : H b = some o) : H' b = some o := k b o n h
theorem Keep.refl (S : List Addr) (H : Hp) : Keep S H H := fun _ _ _ h => h
theorem Keep.trans {S : List Addr} {H H1 H2 : Hp} (a : Keep S H H1) (b : Keep S H1 H2) : Keep S H H2 := fun c o n h => b c o n (a c o n h)
theorem Keep.wide {S T : List Addr} {H H' : Hp} (k : Keep S H H') (h : ∀ b ∈ S, b ∈ T) : Keep T H H' := fun b o n q => k b o (fun z => n (h b z)) q
theorem Keep.all {S : List Addr} {H H' : Hp} (k : Keep [] H H') : Keep S H H' := k.wide fun _ h => (List.not_mem_nil h).elim
theorem Keep.free {S : List Addr} {H H' : Hp} {b : Addr} (k : Keep S H H') (n : b ∉ S) (h : H' b = none) : H b = none := by
  match q : H b with
  | none => rfl
  | some o => exact nomatch h.symm.trans (k b o n q)
theorem Keep.new {S : List Addr} {H : Hp} {p : Addr} {o : HO} (h : H p = none) : Keep S H (upd H p o) := fun b u _ q => by
  rw [upd_ne (ne_of_none q h)]
  exact q
theorem Keep.set {H : Hp} {p : Addr} {o : HO} : Keep [p] H (upd H p o) := fun b u n q => by
  rw [upd_ne (fun z : b = p => n (by rw [z]; exact List.mem_singleton.mpr rfl))]
  exact q
theorem nin0 {b : Addr} : b ∉ ([] : List Addr) := List.not_mem_nil
theorem nin1 {a b : Addr} (h : b ≠ a) : b ∉ [a] := fun z => h (List.mem_singleton.mp z)
/-- a tuple that stands still, of no dict of its own -/
def Tup (H : Hp) (a : Addr) (xs : List V) : Prop := ∃ ob : Obj, H a = some (.frz ob (.tup xs)) ∧ ob.dict = none ∧ ob.slots = #[]
theorem Tup.sq {K : PySem.W.Frag} {H : Hp} {a : Addr} {xs : List V} (h : Tup H a xs) : SqT K H a xs := let ⟨ob, e, _⟩ := h; .inl (.inr ⟨ob, e⟩)
theorem Tup.keep {S : List Addr} {H H' : Hp} {a : Addr} {xs : List V} (h : Tup H a xs) (k : Keep S H H') (n : a ∉ S) : Tup H' a xs := let ⟨ob, e, d⟩ := h; ⟨ob, k a _ n e, d⟩
theorem Tup.inj {H : Hp} {a : Addr} {xs ys : List V} (h : Tup H a xs) (h' : Tup H a ys) : xs = ys := by
  obtain ⟨o1, e1, _⟩ := h
  obtain ⟨o2, e2, _⟩ := h'
  have q := Option.some.inj (e1.symm.trans e2)
  injection q with _ q
  exact HO.tup.inj q
theorem Tup.there {H : Hp} {a : Addr} {xs : List V} (h : Tup H a xs) : ∃ o, H a = some o := let ⟨ob, e, _⟩ := h; ⟨_, e⟩
theorem Tup.neL {H : Hp} {a b : Addr} {xs ys : List V} (h : Tup H a xs) (h' : H b = some (.lst ys)) : a ≠ b := fun z => by
  obtain ⟨o1, e1, _⟩ := h
  rw [z, h'] at e1
  cases e1
theorem Tup.neD {H : Hp} {a b : Addr} {xs : List V} {ys : List (Key × V)} (h : Tup H a xs) (h' : H b = some (.dK ys)) : a ≠ b := fun z => by
  obtain ⟨o1, e1, _⟩ := h
  rw [z, h'] at e1
  cases e1
theorem lst_sq {K : PySem.W.Frag} {H : Hp} {a : Addr} {xs : List V} (h : H a = some (.lst xs)) : SqL K H a xs := .inl (.inl h)
theorem sq_keep {K : PySem.W.Frag} {H H' : Hp} {S : List Addr} {a : Addr} {xs : List V} (h : SqL K H a xs) (k : Keep S H H') (n : a ∉ S) : SqL K H' a xs := by
  rcases h with (h | ⟨o, h⟩) | h
  · exact .inl (.inl (k _ _ n h))
  · exact .inl (.inr ⟨o, k _ _ n h⟩)
  · exact .inr h

/-- a new object o comes -/
def Mk (H : Hp) (o : HO) (Q : VK) : Prop := ∀ p H', H p = none → Keep [] H H' → H' p = some o → Q (.ref p) H'
/-- a new tuple comes -/
def Mt (H : Hp) (xs : List V) (Q : VK) : Prop := ∀ p H', H p = none → Keep [] H H' → Tup H' p xs → Q (.ref p) H'
/-- what stands at a is o from now on -/
def Ch (H : Hp) (a : Addr) (o : HO) (R : Hp → Prop) : Prop := ∀ H', Keep [a] H H' → H' a = some o → R H'
theorem Mk.at {H : Hp} {o : HO} {Q : VK} (h : Mk H o Q) (p : Addr) (n : H p = none) : Q (.ref p) (upd H p o) := h p _ n (Keep.new n) upd_same
theorem Ch.at {H : Hp} {a : Addr} {o : HO} {R : Hp → Prop} (h : Ch H a o R) : R (upd H a o) := h _ Keep.set upd_same

section
variable {X : Cx} {pins : List (Addr × Obj)} {σ : L2.St} {H : Hp} {s : Shared}
/-- a tuple object as the model lays it -/
abbrev tupObj (its : List Value) : Obj := { cls := .type "tuple", data := .seq its.toArray }
theorem mt_end {xs : List V} {its : List Value} {Q : VK} {t' : Nat} (I : Inv X pins σ H s) (r : Vals xs its) (z : xs.length ≤ sizeLine) (h : Mt H xs Q) :
    EP X pins σ Q (.ref s.heap.objs.size) { s with heap := s.heap.push (tupObj its), toks := t' } := by
  have n : H s.heap.objs.size = none := I.hok.fresh (Nat.le_refl _)
  have new : (s.heap.push (tupObj its)).get? s.heap.objs.size = some (tupObj its) := Heap.get?_push_size _ rfl
  refine ⟨.ref s.heap.objs.size, upd H s.heap.objs.size (.frz (tupObj its) (.tup xs)), I.laid (fun b u e => Heap.get?_push_of_some _ e) (Nat.le_refl _) ?_, rfl, ?_⟩
  · exact ⟨new, z, its, r, _, new, rfl, _, rfl⟩
  · exact h _ _ n (Keep.new n) ⟨_, upd_same, rfl, rfl⟩
/-- the object of such a tuple -/
theorem Tup.obj {a : Addr} {xs : List V} (I : Inv X pins σ H s) (h : Tup H a xs) : ∃ (its : List Value) (n : Nat), Vals xs its ∧ xs.length ≤ sizeLine ∧ s.heap.get? a = some { cls := .type "tuple", dict := none, data := .seq its.toArray n, slots := #[] } := by
  obtain ⟨ob, e, d, sl⟩ := h
  obtain ⟨h1, z, its, r, o2, h2, c, n, hd⟩ := I.hok a _ e
  have eo := Option.some.inj (h1.symm.trans h2)
  obtain ⟨c0, d0, da, s0⟩ := ob
  subst eo
  simp only at c hd d sl
  subst c hd d sl
  exact ⟨its, n, r, z, h1⟩
end

/-! ### operators -/
section
variable {X : Cx}
def uAdd (K : PySem.W.Frag) : R2 := fun x y H Q =>
  (∃ i j, x = .int i ∧ y = .int j ∧ Q (.int (i + j)) H) ∨
  (∃ i j, x = .str i ∧ y = .str j ∧ i.length + j.length ≤ sizeLine ∧ Q (.str (i ++ j)) H) ∨
  (∃ l b xs zs, x = .ref l ∧ y = .ref b ∧ H l = some (.lst xs) ∧ H b = some (.lst zs) ∧ xs.length + zs.length ≤ sizeLine ∧ Mk H (.lst (xs ++ zs)) Q) ∨
  (∃ a b xs ys, x = .ref a ∧ y = .ref b ∧ Tup H a xs ∧ Tup H b ys ∧ xs.length + ys.length ≤ sizeLine ∧ (xs = [] → Q y H) ∧ (xs ≠ [] → ys = [] → Q x H) ∧ (xs ≠ [] → ys ≠ [] → Mt H (xs ++ ys) Q))
theorem cat_none {pins : List (Addr × Obj)} {σ : L2.St} {H : Hp} {s : Shared} {a b : Addr} {ys : List V} {Q : VK} (I : Inv X pins σ H s) (ha : Tup H a []) (hb : Tup H b ys) (q : Q (.ref b) H) :
    wpAny (model X.prog X.w) X.A (binaryOp .Add (.ref a) (.ref b)) (EP X pins σ Q) X.xe s := by
  obtain ⟨its, n, r, _, ho⟩ := ha.obj I
  obtain ⟨its2, n2, r2, _, ho2⟩ := hb.obj I
  cases r
  exact concat_meets ⟨_, ho, rfl⟩ ⟨_, ho2, rfl⟩ noFill_tuple_add seq_tuple_add PySem.F.slot_tuple_add PySem.F.entry_tuple_add (PySem.F.args_tuple_add_2 _ _)
    (AutoSeq1.tuple___add___tuple_tuple_0 a #[] n b its2.toArray n2 rfl) ⟨ho, ho2, ⟨.ref b, H, I, rfl, q⟩⟩
theorem op_uAdd : OpR X (binaryOp .Add) (uAdd X.K) := by
  intro pins s σ H x y v u Q I rx ry h
  rcases h with h | h | h | ⟨a, b, xs, ys, rfl, rfl, ha, hb, z, q0, q1, q2⟩
  · exact op_add pins s σ H x y v u Q I rx ry h
  · exact op_add_str pins s σ H x y v u Q I rx ry h
  · obtain ⟨l, b, xs, zs, e1, e2, h1, h2, h3, q⟩ := h
    exact op_cat pins s σ H x y v u Q I rx ry ⟨l, b, xs, zs, e1, e2, h1, h2, h3, fun p n => q.at p n⟩
  · cases rx
    cases ry
    by_cases e : xs = []
    · subst e
      exact cat_none I ha hb (q0 rfl)
    · obtain ⟨its, r1, p1, _⟩ := I.tuple ha.sq
      obtain ⟨its2, r2, p2, _⟩ := I.tuple hb.sq
      refine HT.cat_tup p1 p2 (fun c => e (r1.nil_iff.mp c)) (fun c => ⟨.ref a, H, I, rfl, q1 e (r2.nil_iff.mp c)⟩) (fun c => ?_) (by rw [← r1.length, ← r2.length]; exact z)
      exact mt_end (t' := s.toks) I (r1.append r2) (by rw [List.length_append]; exact z) (q2 e fun d => c (r2.nil_iff.mpr d))
def uMul : R2 := fun x y H Q =>
  (∃ i j, x = .int i ∧ y = .int j ∧ CMul i j ∧ Q (.int (i * j)) H) ∨
  (∃ l k xs, x = .ref l ∧ y = .int k ∧ H l = some (.lst xs) ∧ -(2 ^ 63) ≤ k ∧ k < 2 ^ 63 ∧ xs.length * k.toNat ≤ sizeLine ∧ Mk H (.lst (List.replicate k.toNat xs).flatten) Q)
theorem op_uMul : OpR X (binaryOp .Mult) uMul := by
  intro pins s σ H x y v u Q I rx ry h
  rcases h with h | ⟨l, k, xs, e1, e2, h1, h2, h3, h4, q⟩
  · exact op_mul pins s σ H x y v u Q I rx ry h
  · exact op_rep pins s σ H x y v u Q I rx ry ⟨l, k, xs, e1, e2, h1, h2, h3, h4, fun p n => q.at p n⟩
/-- data that are compared -/
def uEq (K : PySem.W.Frag) (neg : Bool) : R2 := fun x y H Q =>
  (scal x y = true ∧ Q (.bl (if neg then !decide (x = y) else decide (x = y))) H) ∨
  (∃ d e, Dp K H x d ∧ Dp K H y e ∧ SeqAt.shaped d = true ∧ SeqAt.shaped e = true ∧ Q (.bl (if neg then !PyData.eqv d e else PyData.eqv d e)) H)
theorem op_uEq (hu : X.A.units + 64 < cLine) : OpR X (compareOp .Eq) (uEq X.K false) := by
  intro pins s σ H x y v u Q I rx ry h
  rcases h with h | h
  · exact op_eq pins s σ H x y v u Q I rx ry h
  · exact op_eqD hu pins s σ H x y v u Q I rx ry h
theorem op_uNe (hu : X.A.units + 64 < cLine) : OpR X (compareOp .NotEq) (uEq X.K true) := by
  intro pins s σ H x y v u Q I rx ry h
  rcases h with h | h
  · exact op_ne pins s σ H x y v u Q I rx ry h
  · exact op_neD hu pins s σ H x y v u Q I rx ry h
def uIn (K : PySem.W.Frag) (neg : Bool) : R2 := fun x y H Q =>
  (∃ p xs, y = .ref p ∧ (SqL K H p xs ∨ SqT K H p xs) ∧ flatV x = true ∧ xs.all flatV = true ∧ Q (.bl (if neg then !inV x xs else inV x xs)) H) ∨
  (∃ c z : Str, x = .str c ∧ y = .str z ∧ Q (.bl (if neg then !(!(Builtin.Str.occurrences z c 0 z.length 1).isEmpty) else !(Builtin.Str.occurrences z c 0 z.length 1).isEmpty)) H)
theorem op_uIn : OpR X (compareOp .In) (uIn X.K false) := by
  intro pins s σ H x y v u Q I rx ry h
  rcases h with h | ⟨i, j, e1, e2, q⟩
  · exact op_in_seq pins s σ H x y v u Q I rx ry h
  · exact op_in_str pins s σ H x y v u Q I rx ry ⟨i, j, e1, e2, q⟩
theorem op_uNotIn : OpR X (compareOp .NotIn) (uIn X.K true) := by
  intro pins s σ H x y v u Q I rx ry h
  rcases h with h | ⟨i, j, e1, e2, q⟩
  · exact op_notIn_seq pins s σ H x y v u Q I rx ry h
  · exact op_notIn_str pins s σ H x y v u Q I rx ry ⟨i, j, e1, e2, q⟩
end

/-! ### subscripts, slices -/
section
variable {X : Cx}
def uIx (K : PySem.W.Frag) : R2 := fun x y H Q =>
  (∃ p xs i v, x = .ref p ∧ y = .int i ∧ (SqL K H p xs ∨ SqT K H p xs) ∧ atI xs i = some v ∧ Q v H) ∨
  (∃ z i c, x = .str z ∧ y = .int i ∧ z.length ≤ sizeLine ∧ atI z.cps.toList i = some c ∧ Q (.str ⟨#[c]⟩) H)
theorem ix_u : IxR X (uIx X.K) := by
  intro ve se pins s σ H x y v u Q I rx ry h hs
  rcases h with ⟨p, xs, i, w, e1, e2, hq, ha, q⟩ | h
  · rcases hq with hq | hq
    · exact ix_list ve se pins s σ H x y v u Q I rx ry ⟨p, xs, i, w, e1, e2, hq, ha, q⟩ hs
    · exact ix_tup ve se pins s σ H x y v u Q I rx ry ⟨p, xs, i, w, e1, e2, hq, ha, q⟩ hs
  · exact ix_str ve se pins s σ H x y v u Q I rx ry h hs
def uSetL : V → V → V → Hp → (Hp → Prop) → Prop := fun o i v H Q => ∃ p xs k j, o = .ref p ∧ i = .int k ∧ H p = some (.lst xs) ∧ ixN xs.length k = some j ∧ Ch H p (.lst (xs.set j v)) Q
theorem set_u : PSet X uSetL := by
  intro pins s σ H o i v ov iv u Q I r1 r2 r3 h
  obtain ⟨p, xs, k, j, e1, e2, h1, h2, q⟩ := h
  exact set_list pins s σ H o i v ov iv u Q I r1 r2 r3 ⟨p, xs, k, j, e1, e2, h1, h2, q.at⟩
end
end Wg

/-! Wagon, part 3: displays, slices, calls of built-ins, repr of data. -/
namespace Wg
open PySem PySem.Spec PyProof.Rows L2

/-! ### displays -/
section
variable {X : Cx} {es : List Expr} {t : TA} {pos : Pos}
def tTupU (t : TA) : TE := fun σ H Q => t σ H fun xs H1 => xs.length ≤ sizeLine ∧ Mt H1 xs Q
def tLstU (t : TA) : TE := fun σ H Q => t σ H fun xs H1 => xs.length ≤ sizeLine ∧ Mk H1 (.lst xs) Q
theorem pe_tupU {k : Nat} (h : PA X es t) : PE X (.Tuple es k pos) (tTupU t) := by
  constructor
  intro pins s σ H Q I hq
  have run := h.run pos pins s σ H _ I hq
  refine wpAny_Tuple_spliced (thn run fun us s1 r => ?_)
  obtain ⟨xs, H1, I1, rv, z, q⟩ := r
  rw [← rv.length]
  exact ⟨z, mt_end (t' := s1.toks) I1 rv z q⟩
theorem pe_lstU (h : PA X es t) : PE X (.List es pos) (tLstU t) := by
  constructor
  intro pins s σ H Q I hq
  have run := h.run pos pins s σ H _ I hq
  refine wpAny_List_spliced (thn run fun us s1 r => ?_)
  obtain ⟨xs, H1, I1, rv, z, q⟩ := r
  rw [← rv.length]
  have n := I1.fresh
  have new : ObjOk X.prog X.w (upd H1 s1.heap.objs.size (.lst xs)) (s1.heap.push { cls := .type "list", data := .seq us.toArray }) s1.heap.objs.size (.lst xs) := ⟨z, us, 0, rv, Heap.get?_push_size _ rfl⟩
  exact ⟨z, .ref s1.heap.objs.size, _, I1.laid (t' := s1.toks) (fun b u e => Heap.get?_push_of_some _ e) (Nat.le_refl _) new, rfl, q.at _ n⟩
def tDNewU : TE := fun _ H Q => Mk H (.dK []) Q
theorem pe_dnewU : PE X (.Dict [] [] pos) tDNewU := ⟨fun pins s σ H Q I h => pe_dnewK.run pins s σ H Q I fun p n => h.at p n⟩
/-- {k: v} of two names -/
def tDic1 (i j : Nat) : TE := fun σ H Q => ∃ x : V, σ[i]? = some (some x) ∧ ∃ y : V, σ[j]? = some (some y) ∧ ∃ k : Key, x = kV k ∧ Mk H (.dK [(k, y)]) Q
theorem pe_dic1 {k v : Expr} {i j : Nat} (hk : PE X k (tVar i)) (hv : PE X v (tVar j)) : PE X (.Dict [some k] [v] pos) (tDic1 i j) := by
  constructor
  intro pins s σ H Q I h
  obtain ⟨x, e1, y, e2, kk, rfl, q⟩ := h
  refine (pe_disp (pps_cons hk hv pps_nil) rfl rfl (by simp) (by simp)).run pins s σ H Q I fun p n => ?_
  refine ⟨_, e1, _, e2, upd_same, [(kk, y)], rfl, by simp, ?_⟩
  rw [upd_upd]
  exact q.at p n
end

/-! ### slices -/
section
variable {prog : Program} {w : World} {A : Around} {E : Value → Shared → Prop} {s : Shared}
/-- t[..] of all of t is t -/
theorem cut_whole {t sl : Addr} {items : Array Value} {vl vu : Value} {lo hi : Option Int} {Q : Value → Shared → Prop} (ht : IsTup s.heap t items) (hs : s.heap.IsSliceOf sl vl vu .none) (pl : IsPart vl lo) (pu : IsPart vu hi)
    (h0 : HT.sIx items.size 0 lo = 0) (h1 : HT.sIx items.size items.size hi = items.size) (h : Q (.ref t) s) : wpAny (model prog w) A (getItem (.ref t) (.ref sl)) Q E s := by
  obtain ⟨os, hos, hcs, hds⟩ := id hs
  have tysl : s.TypeIs (.ref sl) "slice" := ⟨os, hos, hcs⟩
  unfold getItem
  try with_reducible refine wpAny_holding ?_
  first | refine wpAny_bind (wpAny_pure ?_) | skip
  refine wpAny_bind (wpAny_sequenceKey ht.typeIs (by decide) ?_)
  refine wpAny_bind (wpAny_callSpecial?_slot (name := Str.ofString "__getitem__") ht.typeIs PyProof.Rows.slot_tuple_getitem
    (wpAny_call_entry PyProof.Rows.slot_tuple_getitem ht.typeIs entry_tuple_getitem ?_ (args_tuple_getitem _ _)))
  show wpAny _ _ (Builtin.Tuple.tupleItemsOf (.ref t) >>= _) _ _ s
  refine wpAny_bind (tupleItemsOf_ ht (wpAny_bind (wpAny_typeOf tysl ?_)))
  rw [if_pos (by decide)]
  refine wpAny_bind (HT.sliceApplied_gen hs pl pu ?_)
  rw [h0, h1]
  show wpAny _ _ (if ((((0 : Nat) : Int) == 0 && (1 : Int) == 1 && (items.size - 0) == items.size) = true) then _ else _) _ _ s
  rw [if_pos (by simp)]
  refine wpAny_bind (m := Builtin.Tuple.tupleIsExact _) ?_
  unfold Builtin.Tuple.tupleIsExact
  refine wpAny_bind (wpAny_typeOf ht.typeIs (wpAny_pure ?_))
  rw [if_pos (by decide)]
  exact wpAny_bind (wpAny_rule (wpAny_pure ⟨_, rfl, wpAny_pure h⟩))
end
section
variable {X : Cx}
def uSl (K : PySem.W.Frag) : V → Option Int → Option Int → Hp → VK → Prop := fun x lo hi H Q =>
  (∃ a xs, x = .ref a ∧ SqL K H a xs ∧ Mk H (.lst (cutV xs lo hi)) Q) ∨
  (∃ z, x = .str z ∧ z.length ≤ sizeLine ∧ Q (.str (cutS z lo hi)) H) ∨
  (∃ a xs, x = .ref a ∧ Tup H a xs ∧ ((HT.sIx xs.length 0 lo = 0 ∧ HT.sIx xs.length xs.length hi = xs.length) → Q (.ref a) H) ∧
    (¬ (HT.sIx xs.length 0 lo = 0 ∧ HT.sIx xs.length xs.length hi = xs.length) → Mt H (cutV xs lo hi) Q))
theorem sl_u : SlR X (uSl X.K) := by
  intro pins s σ H x v vl vu lo hi sl Q I rx hs pl pu h
  rcases h with ⟨a, xs, e, hx, q⟩ | h | ⟨a, xs, rfl, hx, q1, q2⟩
  · exact sl_list pins s σ H x v vl vu lo hi sl Q I rx hs pl pu ⟨a, xs, e, hx, fun p n => q.at p n⟩
  · exact sl_str pins s σ H x v vl vu lo hi sl Q I rx hs pl pu h
  · cases rx
    obtain ⟨its, r, ht, hz⟩ := I.tuple hx.sq
    have hlen : its.toArray.size = xs.length := by
      rw [List.size_toArray]
      exact r.length.symm
    refine ⟨"tuple", _, PyProof.Rows.slot_tuple_getitem.lookup, ht.typeIs, ?_⟩
    by_cases c : HT.sIx xs.length 0 lo = 0 ∧ HT.sIx xs.length xs.length hi = xs.length
    · exact cut_whole ht hs pl pu (by rw [hlen]; exact c.1) (by rw [hlen]; exact c.2) ⟨.ref a, H, I, rfl, q1 c⟩
    · refine HT.getItem_tuple_cut ht hs pl pu (by rw [hlen]; exact c) ?_ (by rw [hlen]; exact hz)
      rw [hlen]
      refine mt_end (t' := s.toks) I ((r.drop (HT.sIx xs.length 0 lo)).take (HT.sIx xs.length xs.length hi - HT.sIx xs.length 0 lo)) (Nat.le_trans (cutV_length xs lo hi) hz) (q2 c)
end

/-! ### calls -/
section
variable {X : Cx}
def uList (K : PySem.W.Frag) : List V → Hp → VK → Prop := fun xs H Q => ∃ p ys, xs = [.ref p] ∧ (SqL K H p ys ∨ SqT K H p ys) ∧ Mk H (.lst ys) Q
theorem call_uList : CallR X (.type "list") (uList X.K) := by
  intro pins s σ H xs us Q I r h
  obtain ⟨p, ys, e, hq, q⟩ := h
  exact call_list_of pins s σ H xs us Q I r ⟨p, ys, e, hq, fun l n => q.at l n⟩
def uTuple (K : PySem.W.Frag) : List V → Hp → VK → Prop := fun xs H Q => ∃ p ys, xs = [.ref p] ∧ ((SqL K H p ys ∧ Mt H ys Q) ∨ (SqT K H p ys ∧ Q (.ref p) H))
theorem call_uTuple : CallR X (.type "tuple") (uTuple X.K) := by
  intro pins s σ H xs us Q I r h
  obtain ⟨p, ys, rfl, h⟩ := h
  obtain ⟨u, rfl, rx⟩ := vals1 r
  cases rx
  rcases h with ⟨hq, q⟩ | ⟨hq, q⟩
  · obtain ⟨its, r', pl, hz⟩ := I.list hq
    have hlen := r'.length
    refine call_tuple_list pl.isList (fun h' kp => ?_) (by simp only [List.size_toArray] <;> omega)
    exact mt_end (t' := s.toks) (I.kept (t' := s.toks) kp) r' hz q
  · obtain ⟨its, r', pl, hz⟩ := I.tuple hq
    exact call_tuple_same pl ⟨.ref p, H, I, rfl, q⟩
/-- what repr tells of data -/
def uRepr (K : PySem.W.Frag) : List V → Hp → VK → Prop := fun xs H Q => ∃ v d, xs = [v] ∧ Dp K H v d ∧ d.showable = true ∧ d.depth ≤ 100 ∧ d.shown.length ≤ sizeLine ∧ Q (.str d.shown) H
theorem dp_noDict {K : PySem.W.Frag} {H : Hp} : ∀ {v : V} {d : PyData}, Dp K H v d → d.hasDict = false := by
  intro v d h
  refine Dp.rec (motive_1 := fun v d _ => d.hasDict = false) (motive_2 := fun vs ds _ => PyData.hasDictAll ds = false) ?_ ?_ ?_ ?_ ?_ ?_ ?_ ?_ h
  all_goals intros
  all_goals (try simp only [PyData.hasDict, PyData.hasDictAll, Bool.or_eq_false_iff])
  all_goals (try assumption)
  all_goals (try (constructor <;> assumption))
theorem call_uRepr (hr : Rm 1 X.A) : CallR X (.builtin "repr") (uRepr X.K) := by
  intro pins s σ H xs us Q I r h
  obtain ⟨v, d, rfl, hd, hs, hdep, hz, q⟩ := h
  obtain ⟨u, rfl, rx⟩ := vals1 r
  have hu : X.A.units + (d.depth + 1) < cLine := by
    have := hr.rm.un
    omega
  have hno := dp_noDict hd
  cases hd with
  | non => cases rx; exact PySem.P.repr_of_none ⟨.str _, H, I.tok _, ⟨_, rfl⟩, q⟩
  | bl b => cases rx; exact PySem.P.repr_of_bool ⟨.str _, H, I.tok _, ⟨_, rfl⟩, q⟩
  | int i =>
    obtain ⟨t, rfl⟩ := rx
    exact PySem.P.repr_of_int (of_decide_eq_true hs) ⟨.str _, H, I.tok _, ⟨_, rfl⟩, q⟩
  | str x =>
    obtain ⟨t, rfl⟩ := rx
    exact PySem.P.repr_of_str ⟨.str _, H, I.tok _, ⟨_, rfl⟩, q⟩ hz
  | lst hl ha =>
    cases rx
    obtain ⟨as, rd⟩ := Dp.reads I _ _ _ (.lst hl ha) rfl
    refine repr_of_reads' rd hs (fun z => absurd z (by rw [hno]; exact Bool.false_ne_true)) hr.gd hu (fun _ _ e => e) (fun h' u tk hk => ?_) hz
    exact ⟨.str _, H, I.kept (t' := tk) hk, ⟨_, rfl⟩, q⟩
  | tup hl ha =>
    cases rx
    obtain ⟨as, rd⟩ := Dp.reads I _ _ _ (.tup hl ha) rfl
    refine repr_of_reads' rd hs (fun z => absurd z (by rw [hno]; exact Bool.false_ne_true)) hr.gd hu (fun _ _ e => e) (fun h' u tk hk => ?_) hz
    exact ⟨.str _, H, I.kept (t' := tk) hk, ⟨_, rfl⟩, q⟩
end
end Wg

/-! Wagon, part 4: what is walked; words for defs and their bodies. -/
namespace Wg
open PySem PySem.Spec PyProof.Rows L2

section
variable {X : Cx}
/-- an expression's truth -/
def tTru (K : PySem.W.Frag) (ta : TE) : TT := fun σ H Q => ta σ H fun x H' => ∃ k, TruV K x H' k ∧ Q k H'
theorem pt_tru {a : Expr} {ta : TE} (ha : PE X a ta) (he : ∀ whole, isTrue a X.env whole = (do let v ← whole; standAt a.pos; holding [v] (truthy v)) := by intro _; rfl) : PT X a (tTru X.K ta) := pt_truth ha he
/-- a list, a tuple or a text that is walked -/
def iU (K : PySem.W.Frag) (tl : TE) : TI := fun σ H R => tl σ H fun x H1 =>
  (∃ a xs, x = .ref a ∧ SqL K H1 a xs ∧ R (Itl K a) H1) ∨ (∃ a xs, x = .ref a ∧ SqT K H1 a xs ∧ R (Itt K a) H1) ∨ (∃ z, x = .str z ∧ R (Its z) H1)
theorem pi_u {tg l : Expr} {tl : TE} (hl : PE X l tl) : PI X tg l (iU X.K tl) := by
  constructor
  intro pins s σ H R I h
  have run := hl.run pins s σ H _ I h
  refine thn run fun v s1 e => ?_
  obtain ⟨x, H1, I1, r1, q1⟩ := e
  have new : ∀ {o : Obj} {b : Addr}, b ∈ [s1.heap.objs.size] → FpOk X pins H1 b := fun {o b} hb => by
    rw [List.mem_singleton.mp hb]
    exact I1.fpOk (Nat.le_refl _) I1.fresh
  rcases q1 with ⟨a, xs, rfl, hq, q⟩ | ⟨a, xs, rfl, hq, q⟩ | ⟨z, rfl, q⟩
  · cases r1
    obtain ⟨its, rv, p, hz⟩ := I1.list hq
    refine wpAny_pyIter_list p.isList ⟨_, [s1.heap.objs.size], _, _, H1, rfl, I1.kept (t' := s1.toks) fun b o e => Heap.get?_push_of_some _ e, turn_list a _, ?_, fun b hb => ?_, q⟩
    · exact ⟨_, Heap.get?_push_size _ rfl, rfl, rfl⟩
    · exact new (o := default) hb
  · cases r1
    obtain ⟨its, rv, p, hz⟩ := I1.tuple hq
    refine wpAny_pyIter_tuple (show s1.heap.IsTuple a its.toArray from p) ⟨_, [s1.heap.objs.size], _, _, H1, rfl, I1.kept (t' := s1.toks) fun b o e => Heap.get?_push_of_some _ e, turn_tuple a _, ?_, fun b hb => ?_, q⟩
    · exact ⟨_, Heap.get?_push_size _ rfl, rfl, rfl⟩
    · exact new (o := default) hb
  · obtain ⟨t, rfl⟩ := r1
    match ha : z.cps.all (· < 128) with
    | false => exact wpAny_pyIter_wide ha (pi_one (tk := s1.toks) I1 _ (turn_str _ z t "str_iterator" (.inr rfl)) ⟨_, Heap.get?_push_size _ rfl, rfl, rfl⟩ q)
    | true => exact wpAny_pyIter_ascii ha (pi_one (tk := s1.toks) I1 _ (turn_str _ z t "str_ascii_iterator" (.inl rfl)) ⟨_, Heap.get?_push_size _ rfl, rfl, rfl⟩ q)
end

/-- a body as a promise: the values in the slots at the beginning -/
def run (t : TS) (σ : L2.St) (H : Hp) (Q : VK) : Prop := t { nx := fun _ H' => Q .non H', rt := Q } σ H
end Wg

namespace Wg
open PySem PySem.Spec PyProof.Rows L2
/-- a def of the text where it stands -/
structure Fn (K : PySem.W.Frag) (mg : Str → Option Value) (x : Str) (st : Stmt) (f : Addr) (fd : FuncData) (ps : List Str) : Prop where
  fn : Fun K x x st f fd
  g : mg x = some (.ref f)
  b : Binds K fd ps []

/-! ### data that stand still -/
mutual
inductive Dt (K : PySem.W.Frag) (H : Hp) : V → PyData → Prop
  | non : Dt K H .non .none
  | bl (b : Bool) : Dt K H (.bl b) (.bool b)
  | int (i : Int) : Dt K H (.int i) (.int i)
  | str (x : Str) : Dt K H (.str x) (.str x)
  | tup {a : Addr} {xs : List V} {ds : List PyData} : Tup H a xs → DtAll K H xs ds → Dt K H (.ref a) (.tuple ds)
inductive DtAll (K : PySem.W.Frag) (H : Hp) : List V → List PyData → Prop
  | nil : DtAll K H [] []
  | cons {v : V} {vs : List V} {d : PyData} {ds : List PyData} : Dt K H v d → DtAll K H vs ds → DtAll K H (v :: vs) (d :: ds)
end
mutual
theorem Dt.dp {K : PySem.W.Frag} {H : Hp} : ∀ {v : V} {d : PyData}, Dt K H v d → Dp K H v d
  | _, _, .non => .non
  | _, _, .bl b => .bl b
  | _, _, .int i => .int i
  | _, _, .str x => .str x
  | _, _, .tup t a => .tup t.sq a.dp
theorem DtAll.dp {K : PySem.W.Frag} {H : Hp} : ∀ {vs : List V} {ds : List PyData}, DtAll K H vs ds → DpAll K H vs ds
  | _, _, .nil => .nil
  | _, _, .cons h r => .cons h.dp r.dp
end
mutual
theorem Dt.reads {X : Cx} {pins : List (Addr × Obj)} {σ : L2.St} {H : Hp} {s : Shared} {K : PySem.W.Frag} (I : Inv X pins σ H s) : ∀ {v : V} {d : PyData}, Dt K H v d → ∀ {u : Value}, RelV v u → Reads s.heap u d []
  | _, _, .non, u, r => by cases r; exact .none
  | _, _, .bl b, u, r => by cases r; exact .bool b
  | _, _, .int i, u, r => by obtain ⟨t, rfl⟩ := r; exact .int i t
  | _, _, .str x, u, r => by obtain ⟨t, rfl⟩ := r; exact .str x t
  | _, _, .tup (a := a) t q, u, r => by
    cases r
    obtain ⟨its, n, rv, z, ho⟩ := t.obj I
    exact .tuple ho rfl rfl (DtAll.reads I q rv)
theorem DtAll.reads {X : Cx} {pins : List (Addr × Obj)} {σ : L2.St} {H : Hp} {s : Shared} {K : PySem.W.Frag} (I : Inv X pins σ H s) : ∀ {vs : List V} {ds : List PyData}, DtAll K H vs ds → ∀ {us : List Value}, Vals vs us → ReadsAll s.heap us ds []
  | _, _, .nil, _, r => by cases r; exact .nil
  | _, _, .cons h q, _, r => by
    cases r with
    | cons r1 r2 => exact .cons (Dt.reads I h r1) (DtAll.reads I q r2)
end
mutual
/-- a change of what is no tuple leaves them -/
theorem Dt.keep {K : PySem.W.Frag} {S : List Addr} {H H' : Hp} (k : Keep S H H') (n : ∀ a xs, Tup H a xs → a ∉ S) : ∀ {v : V} {d : PyData}, Dt K H v d → Dt K H' v d
  | _, _, .non => .non
  | _, _, .bl b => .bl b
  | _, _, .int i => .int i
  | _, _, .str x => .str x
  | _, _, .tup t a => .tup (t.keep k (n _ _ t)) (DtAll.keep k n a)
theorem DtAll.keep {K : PySem.W.Frag} {S : List Addr} {H H' : Hp} (k : Keep S H H') (n : ∀ a xs, Tup H a xs → a ∉ S) : ∀ {vs : List V} {ds : List PyData}, DtAll K H vs ds → DtAll K H' vs ds
  | _, _, .nil => .nil
  | _, _, .cons h r => .cons (Dt.keep k n h) (DtAll.keep k n r)
end
def keyD : Key → PyData
  | .inl i => .int i
  | .inr x => .str x
theorem pairs_reads {X : Cx} {pins : List (Addr × Obj)} {σ : L2.St} {H : Hp} {s : Shared} {K : PySem.W.Frag} (I : Inv X pins σ H s) : ∀ {es : List DictEntry} {kvs : List (Key × V)} {us : List (Key × Value)} {ds : List PyData},
    PySem.Pairs (mixKind X.prog X.w) es us → KV kvs us → DtAll K H (kvs.map (·.2)) ds →
      ReadsAll s.heap (es.map (·.key)) (kvs.map fun p => keyD p.1) [] ∧ ReadsAll s.heap (es.map (·.val)) ds []
  | _, _, _, _, .nil, .nil, .nil => ⟨.nil, .nil⟩
  | e :: es, (k, v) :: kvs, (k', u) :: us, d :: ds, .cons h1 h2 hr, .cons ⟨q1, q2⟩ qr, .cons hd hds => by
    obtain ⟨r1, r2⟩ := pairs_reads I hr qr hds
    have q1' : k = k' := q1
    have q2' : RelV v u := q2
    have hv : e.val = u := h2
    have hk : keyIs k' e.key = true := h1
    subst q1'
    have rv : Reads s.heap e.val d [] := by
      rw [hv]
      exact hd.reads I q2'
    refine ⟨.cons (as := []) (bs := []) ?_ r1, .cons (as := []) (bs := []) rv r2⟩
    show Reads s.heap e.key (keyD k) []
    rcases keyIs_shape hk with ⟨i, t, rfl, e2⟩ | ⟨x, t, rfl, e2⟩
    · rw [e2]; exact .int i t
    · rw [e2]; exact .str x t

section
variable {X : Cx}
/-- what repr tells of a dict of such data -/
def uReprD (K : PySem.W.Frag) : List V → Hp → VK → Prop := fun xs H Q => ∃ (a : Addr) (kvs : List (Key × V)) (ds : List PyData), xs = [.ref a] ∧ H a = some (.dK kvs) ∧ DtAll K H (kvs.map (·.2)) ds ∧
  (PyData.dict ((kvs.map fun p => keyD p.1).zip ds)).showable = true ∧ (PyData.dict ((kvs.map fun p => keyD p.1).zip ds)).depth ≤ 100 ∧ (PyData.dict ((kvs.map fun p => keyD p.1).zip ds)).shown.length ≤ sizeLine ∧
  Q (.str (PyData.dict ((kvs.map fun p => keyD p.1).zip ds)).shown) H
theorem DtAll.len {K : PySem.W.Frag} {H : Hp} : ∀ {vs : List V} {ds : List PyData}, DtAll K H vs ds → vs.length = ds.length
  | _, _, .nil => rfl
  | _, _, .cons _ r => congrArg (· + 1) r.len
theorem call_uReprD (hr : Rm 1 X.A) : CallR X (.builtin "repr") (uReprD X.K) := by
  intro pins s σ H xs us Q I r h
  obtain ⟨a, kvs, ds, rfl, ha, hd, hs, hdep, hz, q⟩ := h
  obtain ⟨u, rfl, rx⟩ := vals1 r
  cases rx
  obtain ⟨z, hsy, ws, kv, o, es, ep, ho, ex, hdat, _, hp, _⟩ := I.hok a _ ha
  obtain ⟨r1, r2⟩ := pairs_reads I hp kv hd
  have hl := hd.len
  rw [List.length_map] at hl
  have e1 : ((kvs.map fun p => keyD p.1).zip ds).map (·.1) = kvs.map fun p => keyD p.1 := List.map_fst_zip (by rw [List.length_map]; omega)
  have e2 : ((kvs.map fun p => keyD p.1).zip ds).map (·.2) = ds := List.map_snd_zip (by rw [List.length_map]; omega)
  have rd : Reads s.heap (.ref a) (PyData.dict ((kvs.map fun p => keyD p.1).zip ds)) (a :: [] ++ []) := .dict ho ex.1 hdat (by rw [e1]; exact r1) (by rw [e2]; exact r2)
  have hu : X.A.units + ((PyData.dict ((kvs.map fun p => keyD p.1).zip ds)).depth + 1) < cLine := by
    have := hr.rm.un
    omega
  refine repr_of_reads' rd hs (fun _ hm => ?_) hr.gd hu (fun _ _ e => e) (fun h' u tk hk => ?_) hz
  · have e : sysModules = a := by simpa using hm
    rw [e] at hsy
    simp at hsy
  · exact ⟨.str _, H, I.kept (t' := tk) hk, ⟨_, rfl⟩, q⟩
def uRep (K : PySem.W.Frag) : List V → Hp → VK → Prop := fun xs H Q => uRepr K xs H Q ∨ uReprD K xs H Q
theorem call_uRep (hr : Rm 1 X.A) : CallR X (.builtin "repr") (uRep X.K) := (call_uRepr hr).or (call_uReprD hr)

def uLen (K : PySem.W.Frag) : List V → Hp → VK → Prop := fun xs H Q => ∃ x n, xs = [x] ∧ LenV K x H n ∧ Q (.int n) H
theorem call_uLen : CallR X (.builtin "len") (uLen X.K) := call_len
def uAbs : List V → Hp → VK → Prop := fun xs H Q => ∃ i, xs = [.int i] ∧ Q (.int (if i < 0 then -i else i)) H
theorem call_uAbs : CallR X (.builtin "abs") uAbs := call_abs
def uMax2 : List V → Hp → VK → Prop := fun xs H Q => ∃ i j, xs = [.int i, .int j] ∧ Q (.int (if j > i then j else i)) H
theorem call_uMax2 (hc : X.calm = true) : CallR X (.builtin "max") uMax2 := call_max2 hc
def uMin2 : List V → Hp → VK → Prop := fun xs H Q => ∃ i j, xs = [.int i, .int j] ∧ Q (.int (if j < i then j else i)) H
theorem call_uMin2 (hc : X.calm = true) : CallR X (.builtin "min") uMin2 := call_min2 hc
def uStr : List V → Hp → VK → Prop := fun xs H Q => ∃ i, xs = [.int i] ∧ i.natAbs.log2 < 1920 ∧ Q (.str (toString i)) H
theorem call_uStr : CallR X (.type "str") uStr := call_str_int
def uInt : List V → Hp → VK → Prop := fun xs H Q => (∃ i, xs = [.int i] ∧ Q (.int i) H) ∨ ∃ k, xs = [.bl k] ∧ Q (.int (if k then 1 else 0)) H
theorem call_uInt : CallR X (.type "int") uInt := call_int1
def rIsN : R2 := fun x y H Q => y = .non ∧ Q (.bl (decide (x = .non))) H
def rNotN : R2 := fun x y H Q => y = .non ∧ Q (.bl (!decide (x = .non))) H

/-! ### methods -/
def uAppend : V → List V → Hp → VK → Prop := fun x vs H Q => ∃ l xs y, x = .ref l ∧ vs = [y] ∧ H l = some (.lst xs) ∧ xs.length < sizeLine ∧ Ch H l (.lst (xs ++ [y])) (Q .non)
theorem mt_uAppend : MtM X "list.append" uAppend := by
  intro pins s σ H x vs v us Q I rx rv h
  obtain ⟨l, xs, y, e1, e2, h1, h2, q⟩ := h
  exact mt_append pins s σ H x vs v us Q I rx rv ⟨l, xs, y, e1, e2, h1, h2, q.at⟩
end
end Wg

/-! Wagon, part 5: how a reading goes on, construct by construct. -/
namespace Wg
open PySem PySem.Spec PyProof.Rows L2

section
variable {K : PySem.W.Frag} {H : Hp} {Q : VK} {i j : Int}
theorem e_rI {C : Int → Int → Prop} {g : Int → Int → V} : rI C g (.int i) (.int j) H Q ↔ C i j ∧ Q (g i j) H := by
  constructor
  · rintro ⟨a, b, e1, e2, c, q⟩
    cases e1; cases e2; exact ⟨c, q⟩
  · rintro ⟨c, q⟩; exact ⟨i, j, rfl, rfl, c, q⟩
theorem e_rI0 {g : Int → Int → V} : rI0 g (.int i) (.int j) H Q ↔ Q (g i j) H := by
  constructor
  · rintro ⟨a, b, e1, e2, q⟩
    cases e1; cases e2; exact q
  · intro q; exact ⟨i, j, rfl, rfl, q⟩
theorem e_rU {g : Int → V} : rU g (.int i) H Q ↔ Q (g i) H := by
  constructor
  · rintro ⟨a, e1, q⟩
    cases e1; exact q
  · intro q; exact ⟨i, rfl, q⟩
theorem e_addI : uAdd K (.int i) (.int j) H Q ↔ Q (.int (i + j)) H := by
  constructor
  · rintro (⟨a, b, e1, e2, q⟩ | ⟨a, b, e1, _⟩ | ⟨a, b, _, _, e1, _⟩ | ⟨a, b, _, _, e1, _⟩) <;> first | cases e1; cases e2; exact q | cases e1
  · intro q; exact .inl ⟨i, j, rfl, rfl, q⟩
theorem e_addS {x y : Str} : uAdd K (.str x) (.str y) H Q ↔ x.length + y.length ≤ sizeLine ∧ Q (.str (x ++ y)) H := by
  constructor
  · rintro (⟨a, b, e1, _⟩ | ⟨a, b, e1, e2, z, q⟩ | ⟨a, b, _, _, e1, _⟩ | ⟨a, b, _, _, e1, _⟩) <;> first | cases e1; cases e2; exact ⟨z, q⟩ | cases e1
  · rintro ⟨z, q⟩; exact .inr (.inl ⟨x, y, rfl, rfl, z, q⟩)
theorem e_mulI : uMul (.int i) (.int j) H Q ↔ CMul i j ∧ Q (.int (i * j)) H := by
  constructor
  · rintro (⟨a, b, e1, e2, c, q⟩ | ⟨a, b, _, e1, _⟩) <;> first | cases e1; cases e2; exact ⟨c, q⟩ | cases e1
  · rintro ⟨c, q⟩; exact .inl ⟨i, j, rfl, rfl, c, q⟩
theorem e_abs : uAbs [.int i] H Q ↔ Q (.int (if i < 0 then -i else i)) H := by
  constructor
  · rintro ⟨a, e1, q⟩
    cases e1; exact q
  · intro q; exact ⟨i, rfl, q⟩
theorem e_max2 : uMax2 [.int i, .int j] H Q ↔ Q (.int (if j > i then j else i)) H := by
  constructor
  · rintro ⟨a, b, e1, q⟩
    cases e1; exact q
  · intro q; exact ⟨i, j, rfl, q⟩
theorem e_min2 : uMin2 [.int i, .int j] H Q ↔ Q (.int (if j < i then j else i)) H := by
  constructor
  · rintro ⟨a, b, e1, q⟩
    cases e1; exact q
  · intro q; exact ⟨i, j, rfl, q⟩
theorem e_str : uStr [.int i] H Q ↔ i.natAbs.log2 < 1920 ∧ Q (.str (toString i)) H := by
  constructor
  · rintro ⟨a, e1, z, q⟩
    cases e1; exact ⟨z, q⟩
  · rintro ⟨z, q⟩; exact ⟨i, rfl, z, q⟩
theorem e_intI : uInt [.int i] H Q ↔ Q (.int i) H := by
  constructor
  · rintro (⟨a, e1, q⟩ | ⟨a, e1, q⟩) <;> cases e1; exact q
  · intro q; exact .inl ⟨i, rfl, q⟩
theorem e_intB {k : Bool} : uInt [.bl k] H Q ↔ Q (.int (if k then 1 else 0)) H := by
  constructor
  · rintro (⟨a, e1, q⟩ | ⟨a, e1, q⟩) <;> cases e1; exact q
  · intro q; exact .inr ⟨k, rfl, q⟩
theorem e_isN {x : V} : rIsN x .non H Q ↔ Q (.bl (decide (x = .non))) H := ⟨fun h => h.2, fun q => ⟨rfl, q⟩⟩
theorem e_notN {x : V} : rNotN x .non H Q ↔ Q (.bl (!decide (x = .non))) H := ⟨fun h => h.2, fun q => ⟨rfl, q⟩⟩
theorem e_truB {k k' : Bool} : TruV K (.bl k) H k' ↔ k' = k := Iff.rfl
theorem e_truI {k' : Bool} : TruV K (.int i) H k' ↔ k' = (i != 0) := Iff.rfl
/-- equality of scalars -/
theorem g_eq {x y : V} (h : scal x y = true) (q : Q (.bl (decide (x = y))) H) : uEq K false x y H Q := .inl ⟨h, by simpa using q⟩
theorem g_ne {x y : V} (h : scal x y = true) (q : Q (.bl (!decide (x = y))) H) : uEq K true x y H Q := .inl ⟨h, by simpa using q⟩
/-- an item of a list, of a tuple -/
theorem g_ixL {p : Addr} {xs : List V} {v : V} (h : H p = some (.lst xs)) (e : atI xs i = some v) (q : Q v H) : uIx K (.ref p) (.int i) H Q := .inl ⟨p, xs, i, v, rfl, rfl, .inl (lst_sq h), e, q⟩
theorem g_ixT {p : Addr} {xs : List V} {v : V} (h : Tup H p xs) (e : atI xs i = some v) (q : Q v H) : uIx K (.ref p) (.int i) H Q := .inl ⟨p, xs, i, v, rfl, rfl, .inr h.sq, e, q⟩
theorem g_ixQ {p : Addr} {xs : List V} {v : V} (h : SqL K H p xs) (e : atI xs i = some v) (q : Q v H) : uIx K (.ref p) (.int i) H Q := .inl ⟨p, xs, i, v, rfl, rfl, .inl h, e, q⟩
theorem g_ixS {z : Str} {c : Nat} (h : z.length ≤ sizeLine) (e : atI z.cps.toList i = some c) (q : Q (.str ⟨#[c]⟩) H) : uIx K (.str z) (.int i) H Q := .inr ⟨z, i, c, rfl, rfl, h, e, q⟩
/-- an item stored -/
theorem g_setL {p : Addr} {xs : List V} {v : V} {k : Nat} {R : Hp → Prop} (h : H p = some (.lst xs)) (e : ixN xs.length i = some k) (q : ∀ H', Keep [p] H H' → H' p = some (.lst (xs.set k v)) → R H') : uSetL (.ref p) (.int i) v H R :=
  ⟨p, xs, i, k, rfl, rfl, h, e, q⟩
theorem g_addL {a b : Addr} {xs ys : List V} (h1 : H a = some (.lst xs)) (h2 : H b = some (.lst ys)) (z : xs.length + ys.length ≤ sizeLine) (q : ∀ p H', H p = none → Keep [] H H' → H' p = some (.lst (xs ++ ys)) → Q (.ref p) H') : uAdd K (.ref a) (.ref b) H Q :=
  .inr (.inr (.inl ⟨a, b, xs, ys, rfl, rfl, h1, h2, z, q⟩))
theorem g_addT {a b : Addr} {xs ys : List V} (h1 : Tup H a xs) (h2 : Tup H b ys) (z : xs.length + ys.length ≤ sizeLine) (q : ∀ p H', Keep [] H H' → Tup H' p (xs ++ ys) → Q (.ref p) H') : uAdd K (.ref a) (.ref b) H Q := by
  refine .inr (.inr (.inr ⟨a, b, xs, ys, rfl, rfl, h1, h2, z, fun e => ?_, fun _ e => ?_, fun _ _ p H' _ k t => q p H' k t⟩))
  · subst e
    exact q b H (Keep.refl _ _) h2
  · subst e
    exact q a H (Keep.refl _ _) (by rw [List.append_nil]; exact h1)
theorem g_lenL {p : Addr} {xs : List V} (h : H p = some (.lst xs)) (q : Q (.int xs.length) H) : uLen K [.ref p] H Q := ⟨.ref p, xs.length, rfl, .inl ⟨xs, lst_sq h, rfl⟩, q⟩
theorem g_lenT {p : Addr} {xs : List V} (h : Tup H p xs) (q : Q (.int xs.length) H) : uLen K [.ref p] H Q := ⟨.ref p, xs.length, rfl, .inr ⟨xs, h.sq, rfl⟩, q⟩
theorem g_lenQ {p : Addr} {xs : List V} (h : SqL K H p xs) (q : Q (.int xs.length) H) : uLen K [.ref p] H Q := ⟨.ref p, xs.length, rfl, .inl ⟨xs, h, rfl⟩, q⟩
theorem g_lenS {z : Str} (h : z.length ≤ sizeLine) (q : Q (.int z.length) H) : uLen K [.str z] H Q := ⟨.str z, z.length, rfl, ⟨h, rfl⟩, q⟩
theorem g_repr {v : V} {d : PyData} (h : Dp K H v d) (h1 : d.showable = true) (h2 : d.depth ≤ 100) (h3 : d.shown.length ≤ sizeLine) (q : Q (.str d.shown) H) : uRep K [v] H Q := .inl ⟨v, d, rfl, h, h1, h2, h3, q⟩
theorem g_append {l : Addr} {xs : List V} {y : V} (h : H l = some (.lst xs)) (z : xs.length < sizeLine) (q : ∀ H', Keep [l] H H' → H' l = some (.lst (xs ++ [y])) → Q .non H') : uAppend (.ref l) [y] H Q := ⟨l, xs, y, rfl, rfl, h, z, q⟩
theorem g_listL {p : Addr} {ys : List V} (h : H p = some (.lst ys)) (q : ∀ l H', H l = none → Keep [] H H' → H' l = some (.lst ys) → Q (.ref l) H') : uList K [.ref p] H Q := ⟨p, ys, rfl, .inl (lst_sq h), q⟩
theorem g_listT {p : Addr} {ys : List V} (h : Tup H p ys) (q : ∀ l H', H l = none → Keep [] H H' → H' l = some (.lst ys) → Q (.ref l) H') : uList K [.ref p] H Q := ⟨p, ys, rfl, .inr h.sq, q⟩
theorem g_tupleL {p : Addr} {ys : List V} (h : H p = some (.lst ys)) (q : ∀ l H', H l = none → Keep [] H H' → Tup H' l ys → Q (.ref l) H') : uTuple K [.ref p] H Q := ⟨p, ys, rfl, .inl ⟨lst_sq h, q⟩⟩
theorem g_slL {p : Addr} {xs : List V} {lo hi : Option Int} (h : SqL K H p xs) (q : ∀ l H', H l = none → Keep [] H H' → H' l = some (.lst (cutV xs lo hi)) → Q (.ref l) H') : uSl K (.ref p) lo hi H Q := .inl ⟨p, xs, rfl, h, q⟩
theorem g_slS {z : Str} {lo hi : Option Int} (h : z.length ≤ sizeLine) (q : Q (.str (cutS z lo hi)) H) : uSl K (.str z) lo hi H Q := .inr (.inl ⟨z, rfl, h, q⟩)
theorem cut_all {xs : List V} {lo hi : Option Int} (h : HT.sIx xs.length 0 lo = 0 ∧ HT.sIx xs.length xs.length hi = xs.length) : cutV xs lo hi = xs := by
  unfold cutV
  rw [h.1, h.2]
  exact List.take_length
theorem g_slT {p : Addr} {xs : List V} {lo hi : Option Int} (h : Tup H p xs) (q : ∀ l H', Keep [] H H' → Tup H' l (cutV xs lo hi) → Q (.ref l) H') : uSl K (.ref p) lo hi H Q := by
  refine .inr (.inr ⟨p, xs, rfl, h, fun e => ?_, fun _ l H' _ k t => q l H' k t⟩)
  exact q p H (Keep.refl _ _) (by rw [cut_all e]; exact h)
/-- a slot's value by its place -/
theorem at_lit {α : Type} {xs : List α} {v : α} {i : Int} (j : Nat) (e : i = (j : Int)) (h : xs[j]? = some v) : atI xs i = some v := by
  subst e
  exact atI_nat h
end

/-! ### what isinstance tells -/
section
variable {K : PySem.W.Frag} {H : Hp} {Q : VK}
theorem ty_tup {a : Addr} {xs : List V} (h : Tup H a xs) : TyX K H (.ref a) (.type "tuple") := let ⟨_, e, _⟩ := h; .fTuple e
theorem g_isi {x : V} {n T : String} {k : Bool} (h : TyX K H x (.type n)) (e : kitB n T = some k) (q : Q (.bl k) H) : rIsi K [x, .ty T] H Q := ⟨x, .ty T, _, _, k, rfl, .ty T, h, kit_ty e, q⟩
end
theorem kit_int_int : kitB "int" "int" = some true := by decide +kernel
theorem kit_bool_int : kitB "bool" "int" = some true := by decide +kernel
theorem kit_str_int : kitB "str" "int" = some false := by decide +kernel
theorem kit_none_int : kitB "NoneType" "int" = some false := by decide +kernel
theorem kit_list_int : kitB "list" "int" = some false := by decide +kernel
theorem kit_tuple_int : kitB "tuple" "int" = some false := by decide +kernel
theorem kit_dict_int : kitB "dict" "int" = some false := by decide +kernel
theorem kit_int_bool : kitB "int" "bool" = some false := by decide +kernel
theorem kit_bool_bool : kitB "bool" "bool" = some true := by decide +kernel
theorem kit_str_bool : kitB "str" "bool" = some false := by decide +kernel
theorem kit_none_bool : kitB "NoneType" "bool" = some false := by decide +kernel
theorem kit_list_bool : kitB "list" "bool" = some false := by decide +kernel
theorem kit_tuple_bool : kitB "tuple" "bool" = some false := by decide +kernel
theorem kit_dict_bool : kitB "dict" "bool" = some false := by decide +kernel
end Wg

/-! Wagon, part 6: how long what repr tells is; things as a law's lists hold them. -/
namespace Wg
open PySem PySem.Spec PyProof.Rows L2

/-! ### how long -/
mutual
def cost : PyData → Nat
  | .none => 4
  | .bool _ => 5
  | .int _ => 1921
  | .str x => 10 * x.length + 2
  | .list xs => costs xs + 2
  | .tuple xs => costs xs + 3
  | .dict kvs => costKv kvs + 2
def costs : List PyData → Nat
  | [] => 0
  | x :: xs => cost x + 2 + costs xs
def costKv : List (PyData × PyData) → Nat
  | [] => 0
  | (k, v) :: r => cost k + 2 + cost v + 2 + costKv r
end
/-- texts of moderate signs, whole numbers that str can write -/
def signsOk (x : Str) : Prop := ∀ c ∈ x.cps.toList, c < 16 ^ 8
mutual
def fine : PyData → Prop
  | .none => True
  | .bool _ => True
  | .int i => i.natAbs.log2 < 1920
  | .str x => signsOk x
  | .list xs => fines xs
  | .tuple xs => fines xs
  | .dict kvs => fineKv kvs
def fines : List PyData → Prop
  | [] => True
  | x :: xs => fine x ∧ fines xs
def fineKv : List (PyData × PyData) → Prop
  | [] => True
  | (k, v) :: r => fine k ∧ fine v ∧ fineKv r
end
mutual
theorem fine_show : ∀ {d : PyData}, fine d → d.showable = true
  | .none, _ => rfl
  | .bool _, _ => rfl
  | .int i, h => decide_eq_true h
  | .str _, _ => rfl
  | .list xs, h => by simp only [PyData.showable]; exact fines_show h
  | .tuple xs, h => by simp only [PyData.showable]; exact fines_show h
  | .dict kvs, h => by simp only [PyData.showable]; exact fineKv_show h
theorem fines_show : ∀ {ds : List PyData}, fines ds → PyData.showableAll ds = true
  | [], _ => rfl
  | d :: ds, h => by simp only [PyData.showableAll, Bool.and_eq_true]; exact ⟨fine_show h.1, fines_show h.2⟩
theorem fineKv_show : ∀ {ds : List (PyData × PyData)}, fineKv ds → PyData.showableKv ds = true
  | [], _ => rfl
  | (k, v) :: ds, h => by simp only [PyData.showableKv, Bool.and_eq_true]; exact ⟨⟨fine_show h.1, fine_show h.2.1⟩, fineKv_show h.2.2⟩
end
theorem list_text (ts : List Str) : (listText ts).length ≤ piled ts + 2 := by
  have key : ∀ (ts : List Str) (k : Nat) (acc : Str), (textFrom k acc ts).length ≤ acc.length + piled ts := by
    intro ts
    induction ts with
    | nil =>
      intro k acc
      simp [textFrom, piled]
    | cons t r ih =>
      intro k acc
      have q := ih (k + 1) (acc ++ (if k > 0 then ", " else "" : String) ++ t)
      have e2 : (((if k > 0 then ", " else "" : String) : Str)).length ≤ 2 := by split <;> decide +kernel
      rw [strLen_append, strLen_append] at q
      show (textFrom (k + 1) (acc ++ (if k > 0 then ", " else "" : String) ++ t) r).length ≤ _
      rw [piled_cons]
      omega
  unfold listText
  have e1 : (("[" : String) : Str).length = 1 := rfl
  have e2 : (("]" : String) : Str).length = 1 := rfl
  have q := key ts 0 "["
  rw [strLen_append, e2]
  rw [e1] at q
  omega
theorem tuple_text (ts : List Str) : (tupleText ts).length ≤ piled ts + 3 := by
  unfold tupleText
  have e1 : (("(" : String) : Str).length = 1 := rfl
  have e3 : (((if ts.length == 1 then ",)" else ")" : String) : Str)).length ≤ 2 := by split <;> decide +kernel
  rw [strLen_append, strLen_append, e1]
  by_cases h : ts = []
  · subst h
    decide +kernel
  · have := join_length_add ts h
    omega
theorem dict_text (ts : List Str) : (dictText ts).length ≤ piled ts + 2 := by
  unfold dictText
  have e1 : (("{" : String) : Str).length = 1 := rfl
  have e3 : (("}" : String) : Str).length = 1 := rfl
  rw [strLen_append, strLen_append, e1, e3]
  by_cases h : ts = []
  · subst h
    decide +kernel
  · have := join_length_add ts h
    omega
mutual
theorem shown_le : ∀ {d : PyData}, fine d → d.shown.length ≤ cost d
  | .none, _ => by decide +kernel
  | .bool b, _ => by cases b <;> decide +kernel
  | .int i, h => by
    simp only [PyData.shown, cost]
    rw [PySem.ofString_length]
    exact int_text_length_le (by decide) h
  | .str x, h => by
    simp only [PyData.shown, cost]
    exact StrLaws.reprText_len x h
  | .list xs, h => by
    simp only [PyData.shown, cost]
    have := list_text (PyData.shownAll xs)
    have := shownAll_le h
    omega
  | .tuple xs, h => by
    simp only [PyData.shown, cost]
    have := tuple_text (PyData.shownAll xs)
    have := shownAll_le h
    omega
  | .dict kvs, h => by
    simp only [PyData.shown, cost]
    have := dict_text (PyData.shownKv kvs)
    have := shownKv_le h
    omega
theorem shownAll_le : ∀ {ds : List PyData}, fines ds → piled (PyData.shownAll ds) ≤ costs ds
  | [], _ => Nat.le_refl _
  | d :: ds, h => by
    have h1 := shown_le h.1
    have h2 := shownAll_le h.2
    simp only [PyData.shownAll, costs, piled_cons]
    omega
theorem shownKv_le : ∀ {ds : List (PyData × PyData)}, fineKv ds → piled (PyData.shownKv ds) ≤ costKv ds
  | [], _ => Nat.le_refl _
  | (k, v) :: ds, h => by
    have h1 := shown_le h.1
    have h2 := shown_le h.2.1
    have h3 := shownKv_le h.2.2
    have e : ((": " : String) : Str).length = 2 := rfl
    simp only [PyData.shownKv, costKv, piled_cons, strLen_append, e]
    omega
end
mutual
theorem Dp.keep {K : PySem.W.Frag} {H H' : Hp} (k : Keep [] H H') : ∀ {v : V} {d : PyData}, Dp K H v d → Dp K H' v d
  | _, _, .non => .non
  | _, _, .bl b => .bl b
  | _, _, .int i => .int i
  | _, _, .str x => .str x
  | _, _, .lst h q => .lst (sq_keep h k nin0) (DpAll.keep k q)
  | _, _, .tup h q => .tup (by
      rcases h with (h | ⟨o, h⟩) | h
      · exact .inl (.inl (k _ _ nin0 h))
      · exact .inl (.inr ⟨o, k _ _ nin0 h⟩)
      · exact .inr h) (DpAll.keep k q)
theorem DpAll.keep {K : PySem.W.Frag} {H H' : Hp} (k : Keep [] H H') : ∀ {vs : List V} {ds : List PyData}, DpAll K H vs ds → DpAll K H' vs ds
  | _, _, .nil => .nil
  | _, _, .cons h q => .cons (Dp.keep k h) (DpAll.keep k q)
end
/-- a thing that repr tells -/
inductive Th (K : PySem.W.Frag) (H : Hp) : V → PyData → Prop
  | dp {v : V} {d : PyData} : Dp K H v d → fine d → cost d ≤ 10000000 → d.depth ≤ 100 → Th K H v d
  | dic {a : Addr} {kvs : List (Key × V)} {ds : List PyData} : H a = some (.dK kvs) → DtAll K H (kvs.map (·.2)) ds → fine (.dict ((kvs.map fun p => keyD p.1).zip ds)) → cost (.dict ((kvs.map fun p => keyD p.1).zip ds)) ≤ 10000000 →
      (PyData.dict ((kvs.map fun p => keyD p.1).zip ds)).depth ≤ 100 → Th K H (.ref a) (.dict ((kvs.map fun p => keyD p.1).zip ds))
theorem line_big {n : Nat} (h : n ≤ 10000000) : n ≤ sizeLine := by
  rw [sizeLine_eq]
  omega
theorem g_rep {K : PySem.W.Frag} {H : Hp} {v : V} {d : PyData} {Q : VK} (h : Th K H v d) (q : Q (.str d.shown) H) : uRep K [v] H Q := by
  cases h with
  | dp h1 h2 h3 h4 => exact .inl ⟨v, d, rfl, h1, fine_show h2, h4, Nat.le_trans (shown_le h2) (line_big h3), q⟩
  | dic h1 h2 h3 h4 h5 => exact .inr ⟨_, _, _, rfl, h1, h2, fine_show h3, h5, Nat.le_trans (shown_le h3) (line_big h4), q⟩
theorem Th.keep {K : PySem.W.Frag} {H H' : Hp} (k : Keep [] H H') {v : V} {d : PyData} (h : Th K H v d) : Th K H' v d := by
  cases h with
  | dp h1 h2 h3 h4 => exact .dp (Dp.keep k h1) h2 h3 h4
  | dic h1 h2 h3 h4 h5 => exact .dic (k _ _ nin0 h1) (h2.keep k fun _ _ _ => nin0) h3 h4 h5
end Wg

/-! Wagon, part 7: loops and comprehensions by what holds ahead of each turn. -/
namespace Wg
open PySem PySem.Spec PyProof.Rows L2

/-- n turns, the i-th with the item it i -/
def Loop (n : Nat) (it : Nat → V) (g : TG) (tb : TS) (D : Ends) (σ : L2.St) (H : Hp) : Prop :=
  ∃ Pv : Nat → L2.St → Hp → Prop, Pv 0 σ H ∧ (∀ i σ H, i < n → Pv i σ H → g (it i) σ H fun σ2 H2 => tb { D with nx := Pv (i + 1), ct := Pv (i + 1), bk := D.nx } σ2 H2) ∧ ∀ σ H, Pv n σ H → D.nx σ H
/-- the same, told of the argument's end -/
theorem L_range1 {g : TG} {tb : TS} {D : Ends} {σ : L2.St} {H1 : Hp} {j : Int} (b1 : -(2 ^ 62) ≤ j) (b2 : j < 2 ^ 62) (h : Loop j.toNat (fun i => .int (i : Nat)) g tb D σ H1) :
    ∃ k : Int, [V.int j] = [V.int k] ∧ -(2 ^ 62) ≤ k ∧ k < 2 ^ 62 ∧ ∃ W : Nat → Nat → L2.St → Hp → Prop, (∃ m, W 0 m σ H1) ∧ ∀ i m σ H, W i m σ H →
      ((Itr 0 k.toNat).stop i H ∧ D.nx σ H) ∨ ((Itr 0 k.toNat).go i H ∧ ∃ N : L2.St → Hp → Prop, (∀ σ' H', N σ' H' → ∃ m', m' < m ∧ W (i + 1) m' σ' H') ∧ ∀ x H', (Itr 0 k.toNat).yld i H x H' → g x σ H' fun σ2 H2 => tb { D with nx := N, ct := N, bk := D.nx } σ2 H2) := by
  obtain ⟨Pv, p0, ps, pd⟩ := h
  refine ⟨j, rfl, b1, b2, for_range (lo := 0) (n := j.toNat) Pv p0 (fun i σ H hi p => ?_) pd⟩
  have q := ps i σ H hi p
  rw [Int.zero_add]
  exact q
/-- what a for over range asks, behind its argument -/
def FR1 (g : TG) (tb : TS) (D : Ends) (σ : L2.St) (vs : List V) (H1 : Hp) : Prop := ∃ j : Int, vs = [.int j] ∧ -(2 ^ 62) ≤ j ∧ j < 2 ^ 62 ∧ ∃ W : Nat → Nat → L2.St → Hp → Prop, (∃ m, W 0 m σ H1) ∧ ∀ i m σ H, W i m σ H →
  ((Itr 0 j.toNat).stop i H ∧ D.nx σ H) ∨ ((Itr 0 j.toNat).go i H ∧ ∃ N : L2.St → Hp → Prop, (∀ σ' H', N σ' H' → ∃ m', m' < m ∧ W (i + 1) m' σ' H') ∧ ∀ x H', (Itr 0 j.toNat).yld i H x H' → g x σ H' fun σ2 H2 => tb { D with nx := N, ct := N, bk := D.nx } σ2 H2)
theorem e_for1 {ta : TA} {g : TG} {tb : TS} {D : Ends} {σ : L2.St} {H : Hp} : tFor (iRng1 ta) g tb D σ H ↔ ta σ H (FR1 g tb D σ) := Iff.rfl
theorem g_FR1 {g : TG} {tb : TS} {D : Ends} {σ : L2.St} {H1 : Hp} {j : Int} (b1 : -(2 ^ 62) ≤ j) (b2 : j < 2 ^ 62) (h : Loop j.toNat (fun i => .int (i : Nat)) g tb D σ H1) : FR1 g tb D σ [.int j] H1 := L_range1 b1 b2 h
def FR2 (g : TG) (tb : TS) (D : Ends) (σ : L2.St) (vs : List V) (H1 : Hp) : Prop := ∃ i0 j : Int, vs = [.int i0, .int j] ∧ (-(2 ^ 62) ≤ i0 ∧ i0 < 2 ^ 62 ∧ -(2 ^ 62) ≤ j ∧ j < 2 ^ 62) ∧ ∃ W : Nat → Nat → L2.St → Hp → Prop, (∃ m, W 0 m σ H1) ∧ ∀ i m σ H, W i m σ H →
  ((Itr i0 (j - i0).toNat).stop i H ∧ D.nx σ H) ∨ ((Itr i0 (j - i0).toNat).go i H ∧ ∃ N : L2.St → Hp → Prop, (∀ σ' H', N σ' H' → ∃ m', m' < m ∧ W (i + 1) m' σ' H') ∧ ∀ x H', (Itr i0 (j - i0).toNat).yld i H x H' → g x σ H' fun σ2 H2 => tb { D with nx := N, ct := N, bk := D.nx } σ2 H2)
theorem e_for2 {ta : TA} {g : TG} {tb : TS} {D : Ends} {σ : L2.St} {H : Hp} : tFor (iRng2 ta) g tb D σ H ↔ ta σ H (FR2 g tb D σ) := Iff.rfl
/-- a for over a list, a tuple, a text, behind it -/
def FU (K : PySem.W.Frag) (g : TG) (tb : TS) (D : Ends) (σ : L2.St) (x : V) (H1 : Hp) : Prop := iU K (tC x) σ H1 fun J H1 => ∃ W : Nat → Nat → L2.St → Hp → Prop, (∃ m, W 0 m σ H1) ∧ ∀ i m σ H, W i m σ H →
  (J.stop i H ∧ D.nx σ H) ∨ (J.go i H ∧ ∃ N : L2.St → Hp → Prop, (∀ σ' H', N σ' H' → ∃ m', m' < m ∧ W (i + 1) m' σ' H') ∧ ∀ x H', J.yld i H x H' → g x σ H' fun σ2 H2 => tb { D with nx := N, ct := N, bk := D.nx } σ2 H2)
theorem e_forU {K : PySem.W.Frag} {tl : TE} {g : TG} {tb : TS} {D : Ends} {σ : L2.St} {H : Hp} : tFor (iU K tl) g tb D σ H ↔ tl σ H (FU K g tb D σ) := Iff.rfl
/-- over a list that stands still -/
theorem g_FL {K : PySem.W.Frag} {g : TG} {tb : TS} {D : Ends} {σ : L2.St} {H1 : Hp} {a : Addr} {xs : List V} (Pv : Nat → L2.St → Hp → Prop) (h : SqL K H1 a xs) (h0 : Pv 0 σ H1) (hl : ∀ i σ H, i ≤ xs.length → Pv i σ H → SqL K H a xs)
    (hs : ∀ i x σ H, xs[i]? = some x → Pv i σ H → g x σ H fun σ2 H2 => tb { D with nx := Pv (i + 1), ct := Pv (i + 1), bk := D.nx } σ2 H2) (hd : ∀ σ H, Pv xs.length σ H → D.nx σ H) : FU K g tb D σ (.ref a) H1 :=
  .inl ⟨a, xs, rfl, h, for_list Pv h0 hl hs hd⟩
theorem g_FT {K : PySem.W.Frag} {g : TG} {tb : TS} {D : Ends} {σ : L2.St} {H1 : Hp} {a : Addr} {xs : List V} (Pv : Nat → L2.St → Hp → Prop) (h : Tup H1 a xs) (h0 : Pv 0 σ H1) (hl : ∀ i σ H, i ≤ xs.length → Pv i σ H → Tup H a xs)
    (hs : ∀ i x σ H, xs[i]? = some x → Pv i σ H → g x σ H fun σ2 H2 => tb { D with nx := Pv (i + 1), ct := Pv (i + 1), bk := D.nx } σ2 H2) (hd : ∀ σ H, Pv xs.length σ H → D.nx σ H) : FU K g tb D σ (.ref a) H1 :=
  .inr (.inl ⟨a, xs, rfl, h.sq, for_tup Pv h0 (fun i σ H l p => (hl i σ H l p).sq) hs hd⟩)
/-- the script: locked, or an object of the module -/
def Scr (K : PySem.W.Frag) (H : Hp) (a : Addr) (xs : List V) : Prop :=
  (∃ o, H a = some (.frz o (.lst xs))) ∨ ∃ (o : Obj) (its : Array Value) (n : Nat), K.lookup a = some o ∧ o.cls = .type "list" ∧ o.dict = none ∧ o.data = .seq its n ∧ its.size ≤ sizeLine ∧ Vals xs its.toList
theorem Scr.sq {K : PySem.W.Frag} {H : Hp} {a : Addr} {xs : List V} (h : Scr K H a xs) : SqL K H a xs := h.elim (fun h => .inl (.inr h)) .inr
theorem Scr.keep {K : PySem.W.Frag} {S : List Addr} {H H' : Hp} {a : Addr} {xs : List V} (h : Scr K H a xs) (k : Keep S H H') (n : ∀ o, H a = some o → a ∉ S) : Scr K H' a xs :=
  h.elim (fun ⟨o, e⟩ => .inl ⟨o, k _ _ (n _ e) e⟩) .inr
theorem Scr.keep0 {K : PySem.W.Frag} {H H' : Hp} {a : Addr} {xs : List V} (h : Scr K H a xs) (k : Keep [] H H') : Scr K H' a xs := h.keep k fun _ _ => nin0
/-- a new object comes and is changed -/
theorem Scr.past {K : PySem.W.Frag} {H H1 H2 : Hp} {a p : Addr} {xs : List V} (h : Scr K H a xs) (n : H p = none) (k1 : Keep [] H H1) (k2 : Keep [p] H1 H2) : Scr K H2 a xs :=
  h.elim (fun ⟨o, e⟩ => .inl ⟨o, k2 _ _ (nin1 (ne_of_none e n)) (k1 _ _ nin0 e)⟩) .inr
theorem Scr.of {K : PySem.W.Frag} {H : Hp} {a : Addr} {xs : List V} (o : Only H) (h : SqL K H a xs) : Scr K H a xs := by
  rcases h with (h | h) | h
  · rcases o a with z | ⟨ob, ys, z⟩
    · exact nomatch z.symm.trans h
    · exact nomatch z.symm.trans h
  · exact .inl h
  · exact .inr h
theorem e_ten6 : (10 : Int) ^ (6 : Int).toNat = 1000000 := by decide
theorem e_ten18 : (10 : Int) ^ (18 : Int).toNat = 1000000000000000000 := by decide
theorem e_ten60 : (10 : Int) ^ (60 : Int).toNat = 10 ^ 60 := rfl
theorem len1 {α : Type} {a : α} : [a].length ≤ sizeLine := by show 1 ≤ sizeLine; decide
theorem len_le {n : Nat} (h : n ≤ 1000000) : n ≤ sizeLine := by
  rw [sizeLine_eq]
  omega
theorem len_lt {n : Nat} (h : n ≤ 1000000) : n < sizeLine := by
  rw [sizeLine_eq]
  omega
end Wg

/-! Wagon, part 8: comprehensions, places of texts in tuples, join, split. -/
namespace Wg
open PySem PySem.Spec PyProof.Rows L2

theorem Keep.past {S : List Addr} {H H1 H2 : Hp} {d : Addr} (k1 : Keep S H H1) (k2 : Keep [d] H1 H2) (n : H d = none) : Keep S H H2 := fun b o hb e =>
  k2 b o (nin1 (ne_of_none e n)) (k1 b o hb e)

/-! ### comprehensions -/
/-- n turns: acc is what is made so far, D the new list; R: what is wanted of an element, R0: of a turn without one -/
def CLoop (S : List Addr) (n : Nat) (it : Nat → V) (g : TG) (tt : TT) (te : TE) (vs : List Nat) (σ : L2.St) (H1 : Hp) (Q : VK) : Prop :=
  ∃ P : Nat → Hp → List V → Prop, (∀ D H2, H1 D = none → Keep [] H1 H2 → P 0 H2 []) ∧
    (∀ D i H acc (R : VK) (R0 : Hp → Prop), H1 D = none → i < n → Keep S H1 H → H D = some (.lst acc) → P i H acc →
      (∀ y H4, Keep S H H4 → acc.length < sizeLine → (∀ H5, Keep [D] H4 H5 → P (i + 1) H5 (acc ++ [y])) → R y H4) → (∀ H3, Keep S H H3 → P (i + 1) H3 acc → R0 H3) →
      g (it i) (wipe σ vs) H fun σ2 H2 => wipe σ2 vs = wipe σ vs ∧ tt σ2 H2 fun b H3 => if b = true then te σ2 H3 R else R0 H3) ∧
    ∀ D H acc, H1 D = none → Keep S H1 H → H D = some (.lst acc) → P n H acc → Q (.ref D) H
/-- what a comprehension asks behind its source's value -/
def CB (J : It) (g : TG) (tt : TT) (te : TE) (vs : List Nat) (σ : L2.St) (Q : VK) (H1 : Hp) : Prop := ∀ D, H1 D = none → ∃ W : Nat → Nat → Hp → Prop, (∃ m, W 0 m (upd H1 D (.lst []))) ∧ ∀ i m H, W i m H →
  (J.stop i H ∧ Q (.ref D) H) ∨ (J.go i H ∧ ∃ Nx : Hp → Prop, (∀ H', Nx H' → ∃ m', m' < m ∧ W (i + 1) m' H') ∧ ∀ x H', J.yld i H x H' → g x (wipe σ vs) H' fun σ2 H2 => wipe σ2 vs = wipe σ vs ∧ tt σ2 H2 fun b H3 =>
    if b = true then te σ2 H3 fun y H4 => ∃ acc, H4 D = some (.lst acc) ∧ acc.length < sizeLine ∧ Nx (upd H4 D (.lst (acc ++ [y]))) else Nx H3)
def CU (K : PySem.W.Frag) (g : TG) (tt : TT) (te : TE) (vs : List Nat) (σ : L2.St) (Q : VK) (x : V) (H1 : Hp) : Prop := iU K (tC x) σ H1 fun J H1 => CB J g tt te vs σ Q H1
theorem e_lcU {K : PySem.W.Frag} {tl : TE} {g : TG} {tt : TT} {te : TE} {vs : List Nat} {σ : L2.St} {H : Hp} {Q : VK} : tLc (iU K tl) g tt te vs σ H Q ↔ tl σ H (CU K g tt te vs σ Q) := Iff.rfl
def CR1 (g : TG) (tt : TT) (te : TE) (vs : List Nat) (σ : L2.St) (Q : VK) (xs : List V) (H1 : Hp) : Prop := ∃ j : Int, xs = [.int j] ∧ -(2 ^ 62) ≤ j ∧ j < 2 ^ 62 ∧ CB (Itr 0 j.toNat) g tt te vs σ Q H1
theorem e_lcR1 {ta : TA} {g : TG} {tt : TT} {te : TE} {vs : List Nat} {σ : L2.St} {H : Hp} {Q : VK} : tLc (iRng1 ta) g tt te vs σ H Q ↔ ta σ H (CR1 g tt te vs σ Q) := Iff.rfl
/-- from CLoop: J yields it i at turn i and stops at n, as long as what was there ahead is kept -/
theorem cb_of {S : List Addr} {n : Nat} {it : Nat → V} {J : It} {g : TG} {tt : TT} {te : TE} {vs : List Nat} {σ : L2.St} {H1 : Hp} {Q : VK} (hS : ∀ b ∈ S, ∃ o, H1 b = some o)
    (hgo : ∀ i H, i < n → Keep S H1 H → J.go i H) (hy : ∀ i H x H', i < n → Keep S H1 H → J.yld i H x H' → x = it i ∧ H' = H) (hst : ∀ H, Keep S H1 H → J.stop n H)
    (h : CLoop S n it g tt te vs σ H1 Q) : CB J g tt te vs σ Q H1 := by
  intro D hD
  obtain ⟨P, p0, ps, pd⟩ := h
  have nD : D ∉ S := fun z => by
    obtain ⟨o, e⟩ := hS D z
    exact nomatch hD.symm.trans e
  refine ⟨fun i m H => m = n - i ∧ i ≤ n ∧ Keep S H1 H ∧ ∃ acc, H D = some (.lst acc) ∧ P i H acc, ⟨n, by omega, by omega, (Keep.new hD).all, [], upd_same, p0 D _ hD (Keep.new hD)⟩, ?_⟩
  rintro i m H ⟨rfl, hi, k, acc, eD, p⟩
  by_cases hlt : i < n
  · refine .inr ⟨hgo i H hlt k, fun H' => i + 1 ≤ n ∧ Keep S H1 H' ∧ ∃ acc, H' D = some (.lst acc) ∧ P (i + 1) H' acc, fun H' q => ⟨n - (i + 1), by omega, rfl, q⟩, fun x H' y => ?_⟩
    obtain ⟨ex, eh⟩ := hy i H x H' hlt k y
    rw [ex, eh]
    exact ps D i H acc _ _ hD hlt k eD p (fun y H4 k4 z q => ⟨acc, k4 _ _ nD eD, z, hlt, (k.trans k4).past Keep.set hD, _, upd_same, q _ Keep.set⟩) fun H3 k3 q => ⟨hlt, k.trans k3, acc, k3 _ _ nD eD, q⟩
  · have e : i = n := by omega
    subst e
    exact .inl ⟨hst H k, pd D H acc hD k eD p⟩
theorem g_CR1 {S : List Addr} {g : TG} {tt : TT} {te : TE} {vs : List Nat} {σ : L2.St} {H1 : Hp} {Q : VK} {j : Int} (hS : ∀ b ∈ S, ∃ o, H1 b = some o) (b1 : -(2 ^ 62) ≤ j) (b2 : j < 2 ^ 62)
    (h : CLoop S j.toNat (fun i => .int (i : Nat)) g tt te vs σ H1 Q) : CR1 g tt te vs σ Q [.int j] H1 := by
  refine ⟨j, rfl, b1, b2, cb_of hS (fun i H hi _ => hi) (fun i H x H' hi _ y => ?_) (fun H _ => Nat.le_refl _) h⟩
  obtain ⟨e1, e2⟩ := y
  exact ⟨by rw [e2, Int.zero_add], e1⟩
theorem g_CL {S : List Addr} {K : PySem.W.Frag} {g : TG} {tt : TT} {te : TE} {vs : List Nat} {σ : L2.St} {H1 : Hp} {Q : VK} {a : Addr} {xs : List V} (hS : ∀ b ∈ S, ∃ o, H1 b = some o) (hx : H1 a = some (.lst xs)) (na : a ∉ S)
    (h : CLoop S xs.length (fun i => xs.getD i .non) g tt te vs σ H1 Q) : CU K g tt te vs σ Q (.ref a) H1 := by
  refine .inl ⟨a, xs, rfl, lst_sq hx, cb_of hS (fun i H hi k => ⟨xs, xs[i], lst_sq (k _ _ na hx), List.getElem?_eq_getElem hi⟩) (fun i H x H' hi k y => ?_) (fun H k => ⟨xs, lst_sq (k _ _ na hx), Nat.le_refl _⟩) h⟩
  obtain ⟨e1, e2⟩ := y
  have := e2 xs (lst_sq (k _ _ na hx))
  exact ⟨by rw [List.getD_eq_getElem?_getD, this]; rfl, e1⟩
theorem g_CT {S : List Addr} {K : PySem.W.Frag} {g : TG} {tt : TT} {te : TE} {vs : List Nat} {σ : L2.St} {H1 : Hp} {Q : VK} {a : Addr} {xs : List V} (hS : ∀ b ∈ S, ∃ o, H1 b = some o) (hx : Tup H1 a xs) (na : a ∉ S)
    (h : CLoop S xs.length (fun i => xs.getD i .non) g tt te vs σ H1 Q) : CU K g tt te vs σ Q (.ref a) H1 := by
  refine .inr (.inl ⟨a, xs, rfl, hx.sq, cb_of hS (fun i H hi k => ⟨xs, xs[i], (hx.keep k na).sq, List.getElem?_eq_getElem hi⟩) (fun i H x H' hi k y => ?_) (fun H k => ⟨xs, (hx.keep k na).sq, Nat.le_refl _⟩) h⟩)
  obtain ⟨e1, e2⟩ := y
  have := e2 xs (hx.keep k na).sq
  exact ⟨by rw [List.getD_eq_getElem?_getD, this]; rfl, e1⟩
theorem g_CS {S : List Addr} {K : PySem.W.Frag} {g : TG} {tt : TT} {te : TE} {vs : List Nat} {σ : L2.St} {H1 : Hp} {Q : VK} {z : Str} (hS : ∀ b ∈ S, ∃ o, H1 b = some o)
    (h : CLoop S z.cps.size (fun i => .str ⟨#[z.cps.getD i 0]⟩) g tt te vs σ H1 Q) : CU K g tt te vs σ Q (.str z) H1 := by
  refine .inr (.inr ⟨z, rfl, cb_of hS (fun i H hi k => hi) (fun i H x H' hi k y => ?_) (fun H k => Nat.le_refl _) h⟩)
  obtain ⟨e1, c, e2, e3⟩ := y
  refine ⟨?_, e1⟩
  rw [e3, Array.getD_eq_getD_getElem?, e2]
  rfl

/-! ### a text's place in a tuple of texts -/
section
variable {X : Cx} {o e : Expr} {to te : TE} {apos cpos : Pos}
def tIdx (K : PySem.W.Frag) (to : TE) (t : TA) : TE := fun σ H Q => to σ H fun x H1 => ∃ (a : Addr) (ys : List Str), x = .ref a ∧ Tup H1 a (ys.map V.str) ∧ t σ H1 fun vs H2 =>
  ∃ (z : Str) (j : Nat), vs = [.str z] ∧ Tup H2 a (ys.map V.str) ∧ ys[j]? = some z ∧ (∀ m, m < j → ys[m]? ≠ some z) ∧ Q (.int (j : Nat)) H2
theorem pe_idx {t : TA} (ho : PE X o to) (ha : PA X [e] t) (hbase : attributeBase o "index" X.env (eval o X.env) = eval o X.env := by rfl)
    (hfew : ((backTo cpos (starEach [e] X.env)).all (fun x => !x.1) && (backToKw cpos (keywordEach [] X.env)).all (fun x => x.1.isSome)
      && decide (([e] : List Expr).length + ([] : List Keyword).length + (if ([] : List Keyword).isEmpty then 0 else 1) < 30)) = true := by rfl)
    (hline : (apos.endLine == cpos.line) = true := by rfl) (hs : starEach [e] X.env = (false, eval e X.env) :: starEach [] X.env := by rfl) (hplain : (backTo cpos (starEach [] X.env)).any (·.1) = false := by rfl) :
    PE X (.Call (.Attribute o "index" apos) [e] [] cpos) (tIdx X.K to t) := by
  constructor
  intro pins s σ H Q I h
  have run := ho.run pins s σ H _ I h
  refine wpAny_Call_method_late hbase hfew hline rfl (thn run fun v s1 w => ?_)
  obtain ⟨x, H1, I1, r1, a, ys, rfl, tu, q1⟩ := w
  cases r1
  obtain ⟨its, n, rv, z, hob⟩ := tu.obj I1
  refine ⟨"tuple", "tuple.index", PySem.F.plainAttrs_tuple, PySem.F.slot_tuple_index, PySem.F.type_tuple_index, ⟨_, hob, rfl⟩, fun b e => ?_, ?_⟩
  · cases e
    exact ⟨_, hob, rfl⟩
  have args := ha.run cpos pins s1 σ H1 _ I1 q1
  rw [hs] at args ⊢
  refine Calls.callWith_builtin (by show (false || (backTo cpos (starEach [] X.env)).any (·.1)) = false; rw [hplain] <;> rfl) (Calls.evalArgs_plain ?_)
  refine thn args fun us s2 y => ?_
  obtain ⟨vs, H2, I2, r2, zz, j, rfl, t2, ej, em, q2⟩ := y
  exact mt_tup_index pins s2 σ H2 (.ref a) [.str zz] (.ref a) us Q I2 rfl r2 ⟨a, ys, zz, j, rfl, rfl, t2.sq, ej, em, q2⟩
end

/-! ### texts -/
section
variable {X : Cx} {o e : Expr} {to te : TE} {apos pos : Pos}
def uJoin (K : PySem.W.Frag) : V → List V → Hp → VK → Prop := fun x xs H Q => ∃ a p, ∃ ys : List Str, x = .str a ∧ xs = [.ref p] ∧ (SqL K H p (ys.map V.str) ∨ SqT K H p (ys.map V.str)) ∧ (ys.map (·.length)).sum + ys.length * a.length ≤ 16777216 ∧ Q (.str (Txt.join a ys)) H
theorem pe_uJoin (ho : PE X o to) (he : PE X e te) (hs : starEach [e] X.env = [(false, eval e X.env)] := by rfl) (hbase : attributeBase o "join" X.env (eval o X.env) = eval o X.env := by rfl) (hline : (apos.endLine == pos.line) = true := by rfl) :
    PE X (.Call (.Attribute o "join" apos) [e] [] pos) (tM1 (uJoin X.K) to te) := pe_join ho he hs hbase hline
def uSplit : V → List V → Hp → VK → Prop := fun x xs H Q => ∃ a b, x = .str a ∧ xs = [.str b] ∧ (b.length == 0) = false ∧ a.length + 2 ≤ sizeLine ∧ Mk H (.lst ((Txt.split a b).map V.str)) Q
theorem mt_uSplit : MtR X "str.split" uSplit := by
  intro pins s σ H x xs v us Q I rx rs h
  obtain ⟨a, b, e1, e2, h1, h2, q⟩ := h
  exact mt_split pins s σ H x xs v us Q I rx rs ⟨a, b, e1, e2, h1, h2, fun p n => q.at p n⟩
theorem pe_uSplit (ho : PE X o to) (he : PE X e te) (hs : starEach [e] X.env = [(false, eval e X.env)] := by rfl) (hbase : attributeBase o "split" X.env (eval o X.env) = eval o X.env := by rfl) (hline : (apos.endLine == pos.line) = true := by rfl) :
    PE X (.Call (.Attribute o "split" apos) [e] [] pos) (tM1 uSplit to te) := pe_m1 PySem.F.slot_str_split PySem.F.type_str_split mt_uSplit ho he hs hbase hline
end
end Wg

/-! Wagon, part 9: list(reversed(list)). -/
namespace Wg
open PySem PySem.Spec PyProof.Rows L2
section
variable {prog : Program} {w : World} {A : Around} {E : Value → Shared → Prop} {s : Shared}
/-- what a new list takes out of a list walked from behind -/
theorem takes_back {it l S : Addr} {items : Array Value} {R : Result → Shared → Prop} (hh : A.handled = none) (hit : s.heap.IsRevIter it l ((items.size : Int) - 1)) (hl : s.heap.IsList l items) (hne : l ≠ it) (hn : items.size ≤ sizeLine)
    (hSi : S ≠ it) (hSl : S ≠ l) (hS : s.heap.get? S = some { cls := .type "list", data := .seq #[] })
    (hR : ∀ (h' : Heap) (tk : Nat) (acc : Array Value) (c' : Nat), (∀ b o, b ≠ S → b ≠ it → s.heap.get? b = some o → h'.get? b = some o) → h'.get? S = some { cls := .type "list", dict := none, data := .seq acc c', slots := #[] } →
      ItemsOf (fun i v => items[items.size - 1 - i]? = some v) acc items.size → R (.ok (.ret .none)) { s with heap := h', toks := tk }) :
    wpAny (model prog w) A.in1 (Builtin.«list.__init__» ⟨[.ref S, .ref it], []⟩)
      (fun fin s' => match fin with | .done f => R (.ok f) s' | .again c' => c'.quiet = true ∧ codeAny (model prog w) A c' R s') (fun e s' => R (.error e) s') s := by
  have W := (Walks.listRev (prog := prog) (w := w) (A := A.in1) hh it l hne items).toS
  have hSf : S ∉ [it, l] := by simp only [List.mem_cons, List.not_mem_nil, or_false, not_or]; exact ⟨hSi, hSl⟩
  show wpAny _ A.in1 (do let old ← Builtin.List.listItems (.ref S); Builtin.List.listUpdate (.ref S) (fun _ => #[]); letGo old.toList.reverse; Builtin.List.listExtendWith (.ref S) (.ref it) .none) _ _ s
  refine wpAny_bind ?_
  unfold Builtin.List.listItems
  refine wpAny_bind (wpAny_seqItems hS rfl (wpAny_pure ?_))
  show wpAny _ A.in1 (updateSeq S (fun _ => #[]) >>= fun _ => letGo (#[] : Array Value).toList.reverse >>= fun _ => Builtin.List.listExtendWith (.ref S) (.ref it) .none) _ _ s
  refine wpAny_bind (wpAny_updateSeq hS rfl ?_)
  have hS₂ := Heap.get?_update_self (Obj.mapSeq (fun _ => (#[] : Array Value))) hS rfl
  have oth₂ : ∀ b o, b ≠ S → s.heap.get? b = some o → (s.heap.update S (Obj.mapSeq (fun _ => (#[] : Array Value)))).get? b = some o := fun b o hb e => (Heap.get?_update_other _ _ (Ne.symm hb)).trans e
  refine wpAny_bind (wpAny_letGo ?_)
  have hit2 := hit.at (h' := s.heap.update S (Obj.mapSeq (fun _ => (#[] : Array Value)))) fun o e => oth₂ it o (Ne.symm hSi) e
  have hl2 : (s.heap.update S (Obj.mapSeq (fun _ => (#[] : Array Value)))).IsList l items := hl.at fun o e => oth₂ l o (Ne.symm hSl) e
  have hT : ({ s with heap := s.heap.update S (Obj.mapSeq (fun _ => (#[] : Array Value))) } : Shared).TypeIs (.ref it) "list_reverseiterator" := Heap.IsRevIter.typeIs (s := { s with heap := s.heap.update S (Obj.mapSeq (fun _ => (#[] : Array Value))) }) hit2
  have h1 : Builtin.List.listSameRef (.ref S) (.ref it) = false := by simp [Builtin.List.listSameRef, hSi]
  unfold Builtin.List.listExtendWith
  refine wpAny_bind (wpAny_typeOf hT ?_)
  rw [if_neg (by rw [h1]; decide)]
  refine wpAny_bind (wpAny_pyIter_revIter (s := { s with heap := s.heap.update S (Obj.mapSeq (fun _ => (#[] : Array Value))) }) hit2 ?_)
  refine wpAny_bind (wpAny_holding ?_)
  unfold Builtin.List.listLengthHint
  refine wpAny_bind (wpAny_specialOf hT RT.nolen_lri ?_)
  show wpAny _ A.in1 (specialOf (Value.ref it) (Str.ofString "__length_hint__") >>= _) _ _ _
  refine wpAny_bind (wpAny_specialOf hT RT.hint_lri ?_)
  generalize hid : ("list_reverseiterator.__length_hint__" : String) = id0
  wp_delta
  rw [show splitId id0 = some ("list_reverseiterator", "__length_hint__") from by subst hid; decide +kernel]
  subst hid
  refine wpAny_bind (wpAny_isInstance (b := true) hT (by rw [isSubtype_type]; kernel_rfl) ?_)
  refine wpAny_pure ?_
  rw [if_neg (by decide)]
  have e0 : ((items.size : Nat) : Int) - 1 - ((0 : Nat) : Int) = (items.size : Int) - 1 := by omega
  refine wpAny_pure ⟨plainId_quiet F.plain_extend_loop _, codeAny_extend_loopS W hn _ hSf _ items.size 0 _ _ _ rfl (Nat.zero_le _) ⟨Nat.zero_le _, by rw [e0]; exact hit2, hl2⟩ hS₂ (ItemsOf.nil _) fun s' acc' c' hm hS' hacc => ?_⟩
  rw [Moved.eq_with hm]
  refine hR s'.heap s'.toks acc' c' (fun b o h1 h2 e => hm.heap b o (fun hmem => ?_) (oth₂ b o h1 e)) hS' hacc
  rcases List.mem_cons.mp hmem with e' | hmem
  · exact h1 e'
  · exact h2 (List.mem_singleton.mp hmem)
theorem call_list_back {it l : Addr} {items : Array Value} {Q : Value → Shared → Prop} (hh : A.handled = none) (hit : s.heap.IsRevIter it l ((items.size : Int) - 1)) (hl : s.heap.IsList l items) (hne : l ≠ it) (hn : items.size ≤ sizeLine)
    (hQ : ∀ (h' : Heap) (tk : Nat) (acc : Array Value) (c' : Nat), (∀ b o, b ≠ it → s.heap.get? b = some o → h'.get? b = some o) → h'.get? s.heap.objs.size = some { cls := .type "list", dict := none, data := .seq acc c', slots := #[] } →
      ItemsOf (fun i v => items[items.size - 1 - i]? = some v) acc items.size → Q (.ref s.heap.objs.size) { s with heap := h', toks := tk }) :
    wpAny (model prog w) A (call (.type "list") [.ref it]) Q E s := by
  obtain ⟨oi, hoi, _⟩ := id hit
  obtain ⟨ol, hol, _⟩ := id hl
  have hSi : s.heap.objs.size ≠ it := Nat.ne_of_gt (Heap.lt_size hoi)
  have hSl : s.heap.objs.size ≠ l := Nat.ne_of_gt (Heap.lt_size hol)
  refine callType_codes (Q₁ := fun obj s₁ => obj = .ref s.heap.objs.size ∧ s₁ = { s with heap := s.heap.push { cls := .type "list", data := .seq #[] } }) F.called_list (F.typeCall_list_1 _) F.entry_list_init
    (code_list_new _ ⟨rfl, rfl⟩) fun obj s₁ h₁ => ?_
  obtain ⟨rfl, rfl⟩ := h₁
  have hS : (s.heap.push { cls := .type "list", data := .seq #[] }).get? s.heap.objs.size = some { cls := .type "list", data := .seq #[] } := Heap.get?_push_size _ rfl
  refine ⟨⟨_, hS, rfl⟩, F.args_list_init_2 _ _, takes_back (s := { s with heap := s.heap.push { cls := .type "list", data := .seq #[] } }) (A := A.in1) hh (hit.at fun o e => Heap.get?_push_of_some _ e) (hl.push _) hne hn hSi hSl hS fun h' tk acc c' hk hS' hacc => ?_⟩
  refine ⟨rfl, hQ h' tk acc c' (fun b o hb e => hk b o (fun e' => absurd (Heap.lt_size e) (by rw [e']; exact Nat.lt_irrefl _)) hb (Heap.get?_push_of_some _ e)) hS' hacc⟩
end
def uLRev (K : PySem.W.Frag) (te : TE) : TE := fun σ H Q => te σ H fun x H1 => ∃ p ys, x = .ref p ∧ SqL K H1 p ys ∧ Mk H1 (.lst ys.reverse) Q
section
variable {X : Cx}
theorem pe_uLRev {e : Expr} {te : TE} {p p2 pos pos2 : Pos} (hc : X.calm = true) (hg : Gl X "list") (hm : X.mg "list" = none) (hg2 : Gl X "reversed") (hm2 : X.mg "reversed" = none) (he : PE X e te)
    (hs : starEach [e] X.env = (false, eval e X.env) :: starEach [] X.env := by rfl)
    (hs2 : starEach [.Call (.Name "reversed" p2) [e] [] pos2] X.env = (false, eval (.Call (.Name "reversed" p2) [e] [] pos2) X.env) :: starEach [] X.env := by rfl) :
    PE X (.Call (.Name "list" p) [.Call (.Name "reversed" p2) [e] [] pos2] [] pos) (uLRev X.K te) := by
  refine ⟨fun pins s σ H Q I h => ?_⟩
  refine Call_ (ld_blt I hg hm boot_list (PyProof.Rows.callWith_type1 (args_cons (Call_ (ld_blt I hg2 hm2 PyProof.Rows.boot_reversed (PyProof.Rows.callWith_type1 (args_cons (thn (he.run pins s σ H _ I h) fun u s1 ⟨v, H1, I1, r1, q1⟩ => args_nil ?_) hs) hs rfl))) hs2) hs2 rfl))
  obtain ⟨a, xs, ev, hq, q⟩ := q1
  subst ev
  obtain rfl : u = Value.ref a := r1
  obtain ⟨its, rv, p', hz⟩ := I1.list hq
  refine call_reversed_list p'.isList (args_nil ?_)
  have hl := p'.isList
  obtain ⟨ol, hol, _⟩ := id hl
  have hne : a ≠ s1.heap.objs.size := Nat.ne_of_lt (Heap.lt_size hol)
  have hn : its.toArray.size ≤ sizeLine := by rw [List.size_toArray, ← rv.length]; exact hz
  have hsz : (s1.heap.push (revObj a ((its.toArray.size : Int) - 1))).objs.size = s1.heap.objs.size + 1 := by simp [Heap.push]
  refine call_list_back (s := { s1 with heap := s1.heap.push (revObj a ((its.toArray.size : Int) - 1)) }) (I1.ok.hd hc) ⟨_, Heap.get?_push_size _ rfl, rfl, rfl⟩ (hl.push _) hne hn fun h' tk acc c' hk hS hi => ?_
  have k0 : ∀ b o, s1.heap.get? b = some o → h'.get? b = some o := fun b o e => hk b o (Nat.ne_of_lt (Heap.lt_size e)) (Heap.get?_push_of_some _ e)
  have le : s1.heap.objs.size ≤ (s1.heap.push (revObj a ((its.toArray.size : Int) - 1))).objs.size := by rw [hsz]; exact Nat.le_succ _
  refine ⟨.ref _, upd H1 _ (.lst xs.reverse), I1.laid (t' := tk) k0 le (show ObjOk X.prog X.w _ h' _ (.lst xs.reverse) from ⟨by rw [List.length_reverse]; exact hz, acc.toList, c', RT.vals_rev rv hi, ?_⟩), rfl, q.at _ (I1.hok.fresh le)⟩
  rw [Array.toArray_toList]
  exact hS
end
theorem g_lrev {K : PySem.W.Frag} {p : Addr} {ys : List V} {H : Hp} {Q : VK} (h : SqL K H p ys) (q : ∀ l H', H l = none → Keep [] H H' → H' l = some (.lst ys.reverse) → Q (.ref l) H') : ∃ p' ys', V.ref p = .ref p' ∧ SqL K H p' ys' ∧ Mk H (.lst ys'.reverse) Q := ⟨p, ys, rfl, h, q⟩
end Wg

/-! Wagon, part 10: {i: j}. -/
namespace Wg
open PySem PySem.Spec PyProof.Rows L2
section
variable {X : Cx} {pos : Pos}
def tDicI (i j : Int) : TE := fun _ H Q => Mk H (.dK [(.inl i, .int j)]) Q
theorem pe_dicI {k v : Expr} {i j : Int} (hk : PE X k (tC (.int i))) (hv : PE X v (tC (.int j))) : PE X (.Dict [some k] [v] pos) (tDicI i j) := by
  constructor
  intro pins s σ H Q I q
  refine (pe_disp (pps_cons hk hv pps_nil) rfl rfl (by simp) (by simp)).run pins s σ H Q I fun p n => ?_
  refine ⟨upd_same, [(.inl i, .int j)], rfl, by simp, ?_⟩
  rw [upd_upd]
  exact q.at p n
end
end Wg

/-! Wagon, part 11: enumerate(tuple), min of a list. -/
namespace Wg
open PySem PySem.Spec PyProof.Rows L2
theorem en_new (l : Addr) (items : Array Value) (n : Nat) (dct : Option Addr) (sl : Array (Option Value)) :
    Meets (Builtin.«enumerate.__new__» ⟨[.type "enumerate", .ref l], []⟩) (fun _ R s => s.heap.get? l = some { cls := .type "tuple", dict := dct, data := .seq items n, slots := sl } ∧
      R (.ok (.ret (.ref (s.heap.push { cls := .type "tuple_iterator", data := .fields #[.ref l, .int 0 0] }).objs.size)))
        { s with heap := (s.heap.push { cls := .type "tuple_iterator", data := .fields #[.ref l, .int 0 0] }).push { cls := .type "enumerate", data := .fields #[.none, .bool false, .ref s.heap.objs.size, rawInt 0, .none, .none] } }) :=
  .of_wp fun prog w A R s h => by
    obtain ⟨hp, g, d, tk, os⟩ := s
    obtain ⟨hl, h⟩ := h
    have hsub := sub_enumerate
    have hL : Heap.IsTuple (Shared.heap ⟨hp, g, d, tk, os⟩) l items := ⟨_, hl, rfl, n, rfl⟩
    wp_walk using AutoSeq1.wpAny_loadPart' hl
    refine wpAny_stack_any fun st => wpAny_pure ?_
    split
    · rename_i c _ _ _ _ _
      cases (c == Value.type "enumerate")
      · wp_walk using AutoSeq1.wpAny_loadPart' hl, wpAny_pyIter_tuple hL
        exact ⟨_, rfl, h⟩
      · wp_walk using AutoSeq1.wpAny_loadPart' hl, wpAny_pyIter_tuple hL
        exact ⟨_, rfl, h⟩
    · wp_walk using AutoSeq1.wpAny_loadPart' hl, wpAny_pyIter_tuple hL
      exact ⟨_, rfl, h⟩
section
variable {prog : Program} {w : World} {A : Around} {E : Value → Shared → Prop} {s : Shared}
theorem call_en {l : Addr} {items : Array Value} {Q : Value → Shared → Prop} (hL : s.heap.IsTuple l items)
    (h : ∀ h', IsEnum h' (s.heap.objs.size + 1) s.heap.objs.size 0 .none → h'.IsTupleIter s.heap.objs.size l 0 → h'.objs.size = s.heap.objs.size + 2 →
      (∀ b o, s.heap.get? b = some o → h'.get? b = some o) → Q (.ref (s.heap.objs.size + 1)) { s with heap := h' }) :
    wpAny (model prog w) A (call (.type "enumerate") [.ref l]) Q E s := by
  obtain ⟨⟨c, dct, dt, sl⟩, hl, hc, n, hd⟩ := hL
  replace hc : c = .type "tuple" := hc
  replace hd : dt = .seq items n := hd
  subst hc hd
  refine callType_new F.called_enumerate (by decide) (F.typeCall_enumerate_1 _) (F.newCall_enumerate_1 _) (fun obj => F.args_object_init_2 obj _) F.entry_enumerate_new
    (en_new l items n dct sl) ⟨hl, ?_⟩
  have hz : (s.heap.push { cls := .type "tuple_iterator", data := .fields #[.ref l, .int 0 0] }).objs.size = s.heap.objs.size + 1 := Heap.size_push ..
  show _ ∧ _
  rw [hz]
  have he : IsEnum ((s.heap.push { cls := .type "tuple_iterator", data := .fields #[.ref l, .int 0 0] }).push
      { cls := .type "enumerate", data := .fields #[.none, .bool false, .ref s.heap.objs.size, rawInt 0, .none, .none] }) (s.heap.objs.size + 1) s.heap.objs.size 0 .none := by
    have := Heap.get?_push_size (s.heap.push { cls := .type "tuple_iterator", data := .fields #[.ref l, .int 0 0] })
      (o := { cls := .type "enumerate", data := .fields #[.none, .bool false, .ref s.heap.objs.size, rawInt 0, .none, .none] }) rfl
    rw [hz] at this
    exact this
  exact ⟨⟨_, he, rfl⟩, h _ he ⟨_, Heap.get?_push_of_some _ (Heap.get?_push_size _ rfl), rfl, rfl⟩ (by rw [Heap.size_push, hz]) fun b o x => Heap.get?_push_of_some _ (Heap.get?_push_of_some _ x)⟩
end
/-- a tuple's items in new pairs -/
def Itn (a : Addr) (xs : List V) : It :=
  ⟨fun i H => i < xs.length ∧ Tup H a xs, fun i H v H' => ∃ T x, v = .ref T ∧ H T = none ∧ H' = upd H T (.tup [.int (i : Nat), x]) ∧ xs[i]? = some x, fun i H => i = xs.length ∧ Tup H a xs⟩
theorem turn_en {P : Program} {w : World} {K : PySem.W.Frag} {elts : List Expr} {kk : Nat} {tpos : Pos} (a e it : Addr) (xs : List V) :
    Turn P w K (.Tuple elts kk tpos) (Itn a xs) [e, it] e (fun i h => (∃ old, IsEnum h e it ((i : Nat) : Int) old) ∧ h.IsTupleIter it a i ∧ e ≠ it ∧ a ≠ it ∧ a ≠ e) where
  mem := by simp
  obj := fun i h st b hb => by
    obtain ⟨⟨old, he⟩, ⟨o, ho, hc, hd⟩, _⟩ := st
    have e' : b = e ∨ b = it := by simpa using hb
    rcases e' with z | z
    · rw [z]; exact ⟨_, he, fun v q => nomatch q⟩
    · rw [z]; exact ⟨o, ho, fun v q => by rw [hd] at q; cases q⟩
  keep := fun i h h' st k => let ⟨⟨old, he⟩, hi, hne⟩ := st; ⟨⟨old, k e (by simp) _ he⟩, hi.at fun o q => k it (by simp) o q, hne⟩
  item := by
    intro X hP hw hK hc i pins s σ H E I hf st hg
    subst hP hw hK
    obtain ⟨⟨old, he⟩, hit, hne, hai, hae⟩ := st
    obtain ⟨hin, tu⟩ := hg
    obtain ⟨its, rv, p, hz⟩ := I.tuple (tu.sq (K := X.K))
    have hl := rv.length
    have hel : e < s.heap.objs.size := Heap.lt_size he
    have hil : it < s.heap.objs.size := by obtain ⟨_, q, _⟩ := hit; exact Heap.lt_size q
    have D := Draws.tuple (prog := X.prog) (w := X.w) (A := X.A.in1) (I.ok.hd hc) it a hai its.toArray
    have hta : s.heap.IsTuple a its.toArray := p
    refine wpAny_pyNext_enum_itemD D he ⟨hit, hta⟩ (by simp; omega) hne (by simp [hne, Ne.symm hae]) fun x h' tk hP ho hs' hT hsz hk => ?_
    obtain ⟨hit', _⟩ := hs'
    refine ⟨_, rfl, wpAny_letOwnedTupleGo_enum (s := { s with heap := h', toks := tk + 1 }) ho fun h'' he' sb => ?_⟩
    have hT2 : h''.get? s.heap.objs.size = some { cls := .type "tuple", data := .seq #[.int i tk, x] } := (sb.2 _ (Nat.ne_of_gt hel)).trans hT
    have hxi : its[i]? = some x := by simpa using hP
    obtain ⟨u, hu, ru⟩ : ∃ u, xs[i]? = some u ∧ RelV u x := by
      obtain ⟨x', h1, h2⟩ := rv.get (List.getElem?_eq_getElem hin)
      rw [hxi] at h1
      cases h1
      exact ⟨_, List.getElem?_eq_getElem hin, h2⟩
    have new : ObjOk X.prog X.w (upd H s.heap.objs.size (.tup [.int (i : Nat), u])) h'' s.heap.objs.size (.tup [.int (i : Nat), u]) :=
      ⟨by show 2 ≤ sizeLine; decide, [.int i tk, x], .cons ⟨_, rfl⟩ (.cons ru .nil), ⟨_, hT2, rfl, _, rfl⟩⟩
    have I1 : Inv X pins σ (upd H s.heap.objs.size (.tup [.int (i : Nat), u])) { s with heap := h'', toks := tk + 1 } :=
      I.turnedNew (ch := [e, it]) (fun b ob hb q => (sb.2 b (fun z => hb (by simp [z]))).trans (hk b ob (fun z => hb (by simp [z])) (fun z => hb (by simp [z])) q)) hf (Nat.le_refl _) new
    refine ⟨.ref s.heap.objs.size, _, I1, rfl, ⟨_, u, rfl, I.hok.fresh (Nat.le_refl _), rfl, hu⟩, ⟨⟨x, ?_⟩, hit'.at fun o q => (sb.2 it (Ne.symm hne)).trans q, hne, hai, hae⟩, fun b hb => ?_⟩
    · have e1 : ((i + 1 : Nat) : Int) = (i : Int) + 1 := by omega
      rw [e1]
      exact he'
    · have hb' : b < s.heap.objs.size := by
        have e' : b = e ∨ b = it := by simpa using hb
        rcases e' with z | z
        · rw [z]; exact hel
        · rw [z]; exact hil
      rw [upd_ne (Nat.ne_of_lt hb')]
      exact (hf b hb).1
  done := by
    intro X hP hw hK hc i pins s σ H E I hf st hg
    subst hP hw hK
    obtain ⟨⟨old, he⟩, hit, hne, hai, hae⟩ := st
    obtain ⟨hin, tu⟩ := hg
    obtain ⟨its, rv, p, hz⟩ := I.tuple (tu.sq (K := X.K))
    have hl := rv.length
    have hta : s.heap.IsTuple a its.toArray := p
    obtain ⟨f0, f1, f2, f3, f4, f5⟩ := hf it (by simp)
    have D := Draws.tuple (prog := X.prog) (w := X.w) (A := X.A.in1) (I.ok.hd hc) it a hai its.toArray
    have hn : its.toArray.size = i := by simp; omega
    exact wpAny_pyNext_enum_endD D he (by rw [hn]; exact ⟨hit, hta⟩) fun h' eb => ⟨rfl, I.turned (t' := s.toks) (fun b o hb q => eb b o hb q) f0 f1 f3 f4 f5⟩
  self := fun A i s Q E st h => let ⟨⟨_, he⟩, _⟩ := st; wpAny_pyIter_enum he h
def iEnumU (K : PySem.W.Frag) (ta : TA) : TI := fun σ H R => ta σ H fun vs H1 => ∃ a xs, vs = [.ref a] ∧ Tup H1 a xs ∧ R (Itn a xs) H1
theorem pi_enumU {X : Cx} {e : Expr} {ta : TA} {p pos tpos : Pos} {elts : List Expr} {kk : Nat} (hg : Gl X "enumerate") (hm : X.mg "enumerate" = none) (ha : PA X [e] ta) (hs : starEach [e] X.env = [(false, eval e X.env)] := by rfl) :
    PI X (.Tuple elts kk tpos) (.Call (.Name "enumerate" p) [e] [] pos) (iEnumU X.K ta) := by
  refine ⟨fun pins s σ H R I h => ?_⟩
  refine Call_ (ld_blt I hg hm boot_enumerate (PyProof.Rows.callWith_type1 (thn (ha.run pos pins s σ H _ I h) fun us s1 ⟨vs, H1, I1, r1, q1⟩ => ?_) hs rfl))
  obtain ⟨a, xs, ex, tu, q⟩ := q1
  subst ex
  cases r1 with
  | cons r rr =>
    cases rr
    cases r
    obtain ⟨its, rv, p', hz⟩ := I1.tuple (tu.sq (K := X.K))
    have hta : s1.heap.IsTuple a its.toArray := p'
    have hal : a < s1.heap.objs.size := by obtain ⟨_, q, _⟩ := hta; exact Heap.lt_size q
    refine call_en hta fun h' he hit hsz hk => wpAny_pyIter_enum he ?_
    have I2 : Inv X pins σ H1 { s1 with heap := h' } := I1.kept (t' := s1.toks) hk
    refine ⟨s1.heap.objs.size + 1, [s1.heap.objs.size + 1, s1.heap.objs.size], _, _, H1, rfl, I2, turn_en a (s1.heap.objs.size + 1) s1.heap.objs.size xs, ⟨⟨.none, he⟩, hit, Nat.succ_ne_self _, Nat.ne_of_lt hal, Nat.ne_of_lt (Nat.lt_succ_of_lt hal)⟩, fun b hb => ?_, q⟩
    have e' : b = s1.heap.objs.size + 1 ∨ b = s1.heap.objs.size := by simpa using hb
    have hle : s1.heap.objs.size ≤ b := by
      rcases e' with z | z
      · rw [z]; exact Nat.le_add_right _ _
      · rw [z]; exact Nat.le_refl _
    exact I1.fpOk hle (I1.hok.fresh hle)
/-- a for over enumerate(tuple), behind its argument -/
def FE (g : TG) (tb : TS) (D : Ends) (σ : L2.St) (vs : List V) (H1 : Hp) : Prop := ∃ a xs, vs = [.ref a] ∧ Tup H1 a xs ∧ ∃ W : Nat → Nat → L2.St → Hp → Prop, (∃ m, W 0 m σ H1) ∧ ∀ i m σ H, W i m σ H →
  ((Itn a xs).stop i H ∧ D.nx σ H) ∨ ((Itn a xs).go i H ∧ ∃ N : L2.St → Hp → Prop, (∀ σ' H', N σ' H' → ∃ m', m' < m ∧ W (i + 1) m' σ' H') ∧ ∀ x H', (Itn a xs).yld i H x H' → g x σ H' fun σ2 H2 => tb { D with nx := N, ct := N, bk := D.nx } σ2 H2)
theorem e_forE {K : PySem.W.Frag} {ta : TA} {g : TG} {tb : TS} {D : Ends} {σ : L2.St} {H : Hp} : tFor (iEnumU K ta) g tb D σ H ↔ ta σ H (FE g tb D σ) := Iff.rfl
theorem g_FE {g : TG} {tb : TS} {D : Ends} {σ : L2.St} {H1 : Hp} {a : Addr} {xs : List V} (Pv : Nat → L2.St → Hp → Prop) (h : Tup H1 a xs) (h0 : Pv 0 σ H1) (hl : ∀ i σ H, i ≤ xs.length → Pv i σ H → Tup H a xs)
    (hs : ∀ i x σ H T H', xs[i]? = some x → Pv i σ H → H T = none → Keep [] H H' → H' T = some (.tup [.int (i : Nat), x]) → g (.ref T) σ H' fun σ2 H2 => tb { D with nx := Pv (i + 1), ct := Pv (i + 1), bk := D.nx } σ2 H2) (hd : ∀ σ H, Pv xs.length σ H → D.nx σ H) : FE g tb D σ [.ref a] H1 := by
  refine ⟨a, xs, rfl, h, fun i m σ H => m = xs.length - i ∧ i ≤ xs.length ∧ Pv i σ H, ⟨xs.length, by simp, Nat.zero_le _, h0⟩, ?_⟩
  rintro i m σ H ⟨rfl, hi, p⟩
  have tu := hl i σ H hi p
  by_cases hlt : i < xs.length
  · refine .inr ⟨⟨hlt, tu⟩, Pv (i + 1), fun σ' H' p' => ⟨xs.length - (i + 1), by omega, rfl, hlt, p'⟩, fun x H' y => ?_⟩
    obtain ⟨T, u, rfl, nT, rfl, hu⟩ := y
    exact hs i u σ H T _ hu p nT (Keep.new nT) upd_same
  · have e : i = xs.length := by omega
    subst e
    exact .inl ⟨⟨rfl, tu⟩, hd σ H p⟩
theorem g_pair {K : PySem.W.Frag} {p : Addr} {xs : List V} {n : Nat} {t : TGs} {σ : L2.St} {H : Hp} {Q : L2.St → Hp → Prop} (h : H p = some (.tup xs)) (l : xs.length = n) (q : t xs σ H Q) : gTup K n t (.ref p) σ H Q := ⟨p, xs, rfl, .inl (.inl h), l, q⟩
/-- l[::-1] -/
theorem g_revl {K : PySem.W.Frag} {p : Addr} {ys : List V} {H : Hp} {Q : VK} (h : SqL K H p ys) (q : ∀ l H', H l = none → Keep [] H H' → H' l = some (.lst ys.reverse) → Q (.ref l) H') : ∃ a xs, V.ref p = .ref a ∧ SqL K H a xs ∧ ∀ l, H l = none → Q (.ref l) (upd H l (.lst xs.reverse)) :=
  ⟨p, ys, rfl, h, fun l n => q l _ n (Keep.new n) upd_same⟩
/-- min(list of numbers) -/
theorem g_min {K : PySem.W.Frag} {a : Addr} {ns : List Int} {H : Hp} {Q : VK} (h : H a = some (.lst (ns.map V.int))) (l : 0 < ns.length) (q : ∀ m, m ∈ ns → (∀ y, y ∈ ns → m ≤ y) → Q (.int m) H) : rMin K [.ref a] H Q := ⟨a, ns, rfl, lst_sq h, l, q⟩
end Wg

/-! Wagon, part 12: pop, reverse, extend, zip of two tuples in a comprehension. -/
namespace Wg
open PySem PySem.Spec PyProof.Rows L2 RZ
section
variable {X : Cx}
def uPopAt : V → List V → Hp → VK → Prop := fun x vs H Q => ∃ l xs i k y, x = .ref l ∧ vs = [.int i] ∧ H l = some (.lst xs) ∧ -(2 ^ 63) ≤ i ∧ i < 2 ^ 63 ∧ seqIndex? i xs.length = some k ∧ xs[k]? = some y ∧ Ch H l (.lst (xs.eraseIdx k)) (Q y)
theorem mt_uPopAt : MtM X "list.pop" uPopAt := by
  intro pins s σ H x vs v us Q I rx rv h
  obtain ⟨l, xs, i, k, y, e1, e2, e3, e4, e5, e6, e7, q⟩ := h
  exact mt_popAt pins s σ H x vs v us Q I rx rv ⟨l, xs, i, k, y, e1, e2, e3, e4, e5, e6, e7, q.at⟩
def uReverse : V → List V → Hp → VK → Prop := fun x vs H Q => ∃ l xs, x = .ref l ∧ vs = [] ∧ H l = some (.lst xs) ∧ Ch H l (.lst xs.reverse) (Q .non)
theorem mt_uReverse : MtM X "list.reverse" uReverse := by
  intro pins s σ H x vs v us Q I rx rv h
  obtain ⟨l, xs, e1, e2, e3, q⟩ := h
  exact mt_reverse pins s σ H x vs v us Q I rx rv ⟨l, xs, e1, e2, e3, q.at⟩
def uExtend : V → List V → Hp → VK → Prop := fun x vs H Q => ∃ l b xs zs, x = .ref l ∧ vs = [.ref b] ∧ H l = some (.lst xs) ∧ H b = some (.lst zs) ∧ xs.length + zs.length ≤ sizeLine ∧ Ch H l (.lst (xs ++ zs)) (Q .non)
theorem mt_uExtend : MtM X "list.extend" uExtend := by
  intro pins s σ H x vs v us Q I rx rv h
  obtain ⟨l, b, xs, zs, e1, e2, e3, e4, e5, q⟩ := h
  exact mt_extend pins s σ H x vs v us Q I rx rv ⟨l, b, xs, zs, e1, e2, e3, e4, e5, q.at⟩
end
theorem g_popAt {l : Addr} {xs : List V} {i : Int} {k : Nat} {y : V} {H : Hp} {Q : VK} (h : H l = some (.lst xs)) (e : i = (k : Int)) (hk : k < xs.length) (hb : xs.length ≤ 1000) (hy : xs[k]? = some y) (q : ∀ H', Keep [l] H H' → H' l = some (.lst (xs.eraseIdx k)) → Q y H') : uPopAt (.ref l) [.int i] H Q := by
  refine ⟨l, xs, i, k, y, rfl, rfl, h, by omega, by omega, ?_, hy, q⟩
  subst e
  unfold seqIndex?
  have h0 : ¬ ((k : Int) < 0) := by omega
  simp only [h0, if_false]
  rw [if_pos (by simp; omega), Int.toNat_natCast]
theorem g_reverse {l : Addr} {xs : List V} {H : Hp} {Q : VK} (h : H l = some (.lst xs)) (q : ∀ H', Keep [l] H H' → H' l = some (.lst xs.reverse) → Q .non H') : uReverse (.ref l) [] H Q := ⟨l, xs, rfl, rfl, h, q⟩
/-- a comprehension over zip of two tuples, behind its arguments -/
def CZ (K : PySem.W.Frag) (g : TG) (tt : TT) (te : TE) (vs : List Nat) (σ : L2.St) (Q : VK) (xs : List V) (H1 : Hp) : Prop := ∃ a b us ws, xs = [.ref a, .ref b] ∧ ((SqL K H1 a us ∧ SqL K H1 b ws ∧ CB (Itz K a b) g tt te vs σ Q H1) ∨ (SqT K H1 a us ∧ SqT K H1 b ws ∧ CB (ItzT K a b) g tt te vs σ Q H1))
theorem e_lcZ {K : PySem.W.Frag} {ta : TA} {g : TG} {tt : TT} {te : TE} {vs : List Nat} {σ : L2.St} {H : Hp} {Q : VK} : tLc (iZipA K ta) g tt te vs σ H Q ↔ ta σ H (CZ K g tt te vs σ Q) := Iff.rfl
theorem g_CZ {K : PySem.W.Frag} {g : TG} {tt : TT} {te : TE} {vs : List Nat} {σ : L2.St} {Q : VK} {H1 : Hp} {a b : Addr} {us ws : List V} (ha : Tup H1 a us) (hb : Tup H1 b ws) (hl : us.length = ws.length) (P : Nat → Hp → List V → Prop)
    (p0 : ∀ D H2, H1 D = none → Keep [] H1 H2 → P 0 H2 [])
    (ps : ∀ D i x y H acc (R : VK) (R0 : Hp → Prop) T H', H1 D = none → us[i]? = some x → ws[i]? = some y → Keep [] H1 H' → H' D = some (.lst acc) → Keep [] H H' → P i H acc → H' T = some (.tup [x, y]) →
      (∀ z H4, Keep [] H' H4 → acc.length < sizeLine → (∀ H5, Keep [D] H4 H5 → P (i + 1) H5 (acc ++ [z])) → R z H4) → (∀ H3, Keep [] H' H3 → P (i + 1) H3 acc → R0 H3) →
      g (.ref T) (wipe σ vs) H' fun σ2 H2 => wipe σ2 vs = wipe σ vs ∧ tt σ2 H2 fun bb H3 => if bb = true then te σ2 H3 R else R0 H3)
    (pd : ∀ D H acc, H1 D = none → Keep [] H1 H → H D = some (.lst acc) → P us.length H acc → Q (.ref D) H) : CZ K g tt te vs σ Q [.ref a, .ref b] H1 := by
  refine ⟨a, b, us, ws, rfl, .inr ⟨ha.sq, hb.sq, fun D hD => ?_⟩⟩
  refine ⟨fun i m H => m = us.length - i ∧ i ≤ us.length ∧ Keep [] H1 H ∧ ∃ acc, H D = some (.lst acc) ∧ P i H acc, ⟨us.length, by omega, by omega, Keep.new hD, [], upd_same, p0 D _ hD (Keep.new hD)⟩, ?_⟩
  rintro i m H ⟨rfl, hi, k, acc, eD, p⟩
  have ta := (ha.keep k nin0).sq (K := K)
  have tb := (hb.keep k nin0).sq (K := K)
  by_cases hlt : i < us.length
  · have hx := List.getElem?_eq_getElem hlt
    have hy := List.getElem?_eq_getElem (show i < ws.length by omega)
    refine .inr ⟨⟨us, ws, _, _, ta, tb, hx, hy⟩, fun H' => i + 1 ≤ us.length ∧ Keep [] H1 H' ∧ ∃ acc, H' D = some (.lst acc) ∧ P (i + 1) H' acc, fun H' q => ⟨us.length - (i + 1), by omega, rfl, q⟩, fun v H' y => ?_⟩
    obtain ⟨T, x', y', rfl, hT, rfl, f1, f2⟩ := y
    have kn : Keep [] H (upd H T (.tup [x', y'])) := Keep.new hT
    refine ps D i x' y' H acc _ _ T _ hD (f1 us ta) (f2 ws tb) (k.trans kn) (kn _ _ nin0 eD) kn p upd_same (fun z H4 k4 hz q => ⟨acc, k4 _ _ nin0 (kn _ _ nin0 eD), hz, hlt, (k.trans (kn.trans k4)).past Keep.set hD, _, upd_same, q _ Keep.set⟩) fun H3 k3 q => ⟨hlt, k.trans (kn.trans k3), acc, k3 _ _ nin0 (kn _ _ nin0 eD), q⟩
  · have e : i = us.length := by omega
    subst e
    exact .inl ⟨⟨us, ws, ta, tb, .inl (Nat.le_refl _)⟩, pd D H acc hD k eD p⟩
/-! d[k], d[k] = v by values -/
def uDG (x y : V) (H : Hp) (Q : VK) : Prop := ∃ a v, x = .ref a ∧ DGet H a y (some v) ∧ Q v H
theorem e_dget {td ty : TE} {σ : L2.St} {H : Hp} {Q : VK} : tDGet td ty σ H Q ↔ td σ H fun x H1 => ty σ H1 fun y H2 => uDG x y H2 Q := Iff.rfl
def uDP (x y v : V) (H : Hp) (R : Hp → Prop) : Prop := ∃ a H4, x = .ref a ∧ DPut H a y v H4 ∧ R H4
theorem e_dput {td ty tv : TE} {D : Ends} {σ : L2.St} {H : Hp} : sDPut td ty tv D σ H ↔ tv σ H fun v H1 => td σ H1 fun x H2 => ty σ H2 fun y H3 => uDP x y v H3 (D.nx σ) := Iff.rfl
end Wg

/-! Wagon, part 13: sorted of alike data. -/
namespace Wg
open PySem PySem.Spec PyProof.Rows L2
theorem each_vals {α : Type} {RR : V → α → Prop} : ∀ {xs : List V} {us : List Value} {rs : List α}, Vals xs us → PySem.W.EachIs RR xs rs → PySem.W.EachIs (fun u r => ∃ x, RelV x u ∧ RR x r) us rs
  | _, _, _, .nil, .nil => .nil
  | _, _, _, .cons r q, .cons h t => .cons ⟨_, r, h⟩ (each_vals q t)
theorem vals_each {α : Type} {RR : V → α → Prop} : ∀ {us : List Value} {rs : List α}, PySem.W.EachIs (fun u r => ∃ x, RelV x u ∧ RR x r) us rs → ∃ xs, Vals xs us ∧ PySem.W.EachIs RR xs rs
  | _, _, .nil => ⟨[], .nil, .nil⟩
  | _, _, .cons ⟨x, h1, h2⟩ t => let ⟨xs, a, b⟩ := vals_each t; ⟨x :: xs, .cons h1 a, .cons h2 b⟩
/-- sorted(list of alike data): RR tells what the items are -/
def uSorted (K : PySem.W.Frag) : List V → Hp → VK → Prop := fun vs H Q => ∃ (α : Type) (RR : V → α → Prop) (enc : α → PyData) (a : Addr) (xs : List V) (rs : List α), vs = [.ref a] ∧ SqL K H a xs ∧ PySem.W.EachIs RR xs rs ∧
  (∀ x r, RR x r → Dp K H x (enc r)) ∧ PySem.W.AllAlike (rs.map enc) ∧ PySem.W.Sortable (rs.map enc) ∧ (∀ r ∈ rs, (enc r).depth ≤ 50) ∧
  ∀ ys, ys.length = xs.length → PySem.W.EachIs RR ys (rs.mergeSort (PySem.W.dataLe false enc)) → Mk H (.lst ys) Q
theorem call_uSorted {X : Cx} (hu : X.A.units + 64 < cLine) : CallR X (.builtin "sorted") (uSorted X.K) := by
  intro pins s σ H vs us Q I r h
  obtain ⟨α, RR, enc, a, xs, rs, rfl, hs, he, hd, ha, hk, hdp, q⟩ := h
  obtain ⟨its, rv, hl, hz⟩ := I.list hs
  obtain ⟨u, rfl, ru⟩ := vals1 r
  obtain rfl : u = Value.ref a := ru
  have er := each_vals rv he
  refine PySem.W.sorted_data (R := fun u r => ∃ x, RelV x u ∧ RR x r) hl.isList er (er.mono fun u r ⟨x, h1, h2⟩ => Dp.reads I _ _ _ (hd x r h2) h1) ha hk (by rw [← he.length]; exact hz) (fun b hb => by have := hdp b hb; omega) fun out ho eo => ?_
  obtain ⟨ys, v1, e1⟩ := vals_each eo
  obtain ⟨n, hn⟩ := sortedAll_at s.heap its (List.toArray out)
  have hly : ys.length = xs.length := by rw [v1.length, ho, he.length]
  refine ⟨.ref (s.heap.objs.size + 1), upd H (s.heap.objs.size + 1) (.lst ys), I.laid (t' := s.toks) (fun b o e => sortedAll_old e) (Nat.le_succ _) ⟨by rw [hly]; exact hz, out, n, v1, hn⟩, rfl, ?_⟩
  have nf := I.hok.fresh (Nat.le_succ s.heap.objs.size)
  exact q ys hly e1 _ _ nf (Keep.new nf) upd_same
end Wg

/-! Wagon, part 14: dict(pairs), list.clear. -/
namespace Wg
open PySem PySem.Spec PyProof.Rows L2
def uDictP (K : PySem.W.Frag) : List V → Hp → VK → Prop := fun xs H Q => ∃ (a : Addr) (ps : List Addr) (kvs : List (Key × V)), xs = [.ref a] ∧ SqL K H a (ps.map V.ref) ∧ Paired (fun p kv => SqT K H p [kV kv.1, kv.2]) ps kvs ∧ Mk H (.dK (mergeK [] kvs)) Q
theorem call_uDictP {X : Cx} (hc : X.calm = true) : CallR X (.type "dict") (uDictP X.K) := by
  intro pins s σ H xs us Q I r h
  obtain ⟨a, ps, kvs, e1, e2, e3, q⟩ := h
  exact call_dictP hc pins s σ H xs us Q I r ⟨a, ps, kvs, e1, e2, e3, fun p n => q.at p n⟩
def uClear : V → List V → Hp → VK → Prop := fun x vs H Q => ∃ l xs, x = .ref l ∧ vs = [] ∧ H l = some (.lst xs) ∧ Ch H l (.lst []) (Q .non)
theorem mt_uClear {X : Cx} : MtM X "list.clear" uClear := by
  intro pins s σ H x vs v us Q I rx rv h
  obtain ⟨l, xs, e1, e2, e3, q⟩ := h
  exact mt_clear pins s σ H x vs v us Q I rx rv ⟨l, xs, e1, e2, e3, q.at⟩
theorem g_clear {l : Addr} {xs : List V} {H : Hp} {Q : VK} (h : H l = some (.lst xs)) (q : ∀ H', Keep [l] H H' → H' l = some (.lst []) → Q .non H') : uClear (.ref l) [] H Q := ⟨l, xs, rfl, rfl, h, q⟩
theorem merge_nodup : ∀ (more acc : List (Key × V)), ((acc ++ more).map (·.1)).Nodup → mergeK acc more = acc ++ more
  | [], acc, _ => (List.append_nil acc).symm
  | (k, v) :: more, acc, h => by
    have e : acc ++ (k, v) :: more = (acc ++ [(k, v)]) ++ more := by simp
    have hk : (acc.any fun kv => decide (kv.1 = k)) = false := by
      rw [List.any_eq_false]
      intro x hx hq
      rw [List.map_append, List.nodup_append] at h
      exact h.2.2 x.1 (List.mem_map.mpr ⟨x, hx, rfl⟩) k (by simp) (of_decide_eq_true hq)
    have hp : putK acc k v = acc ++ [(k, v)] := by
      unfold putK
      rw [hk]
      rfl
    show mergeK (putK acc k v) more = _
    rw [hp, e]
    exact merge_nodup more _ (by rw [← e]; exact h)
end Wg
namespace Wg
open PySem PySem.Spec PyProof.Rows L2
def tTupRgM (te : L2.St → Hp → (Int → Int → Hp → Prop) → Prop) : TE := fun σ H Q => te σ H fun a b H1 => RgOk a b ∧ Mt H1 (rgV a b) Q
theorem pe_tupRgM {X : Cx} {e : Expr} {te : L2.St → Hp → (Int → Int → Hp → Prop) → Prop} {p pos : Pos} (hc : X.calm = true) (hg : Gl X "tuple") (hm : X.mg "tuple" = none) (he : PRg X e te) (na : starEach [e] X.env = (false, eval e X.env) :: starEach [] X.env := by rfl) : PE X (.Call (.Name "tuple" p) [e] [] pos) (tTupRgM te) := by
  refine ⟨fun pins s σ H Q I h => ?_⟩
  refine Call_ (ld_blt I hg hm boot_tuple (PyProof.Rows.callWith_type1 (args_cons (thn (he pins s σ H _ I h) fun x s1 ⟨r, a, b, t, u, v, H1, ex, hr, I1, ok, q⟩ => args_nil ?_) na) na))
  subst ex
  obtain ⟨b1, b2, b3, b4, b5⟩ := ok
  refine call_tuple_range (n := (b - a).toNat) (I1.ok.hd hc) hr (small_one b1 b2 b3 b4) (rangeSize_nat a b) b5 fun h' tk acc hk hi => ?_
  have I2 : Inv X pins σ H1 { s1 with heap := h', toks := tk } := I1.kept hk
  have := mt_end (t' := tk) I2 (vals_rg hi) (by rw [rgV_length, sizeLine_eq]; omega) q
  simpa using this
theorem rgV_ints (n : Nat) : rgV 0 (n : Int) = ((List.range n).map fun i => ((i : Nat) : Int)).map V.int := by
  unfold rgV
  rw [List.map_map]
  simp [Function.comp_def]
end Wg

/-! Wagon, part 15: < and min of alike data. -/
namespace Wg
open PySem PySem.Spec PyProof.Rows L2
def uLtD (K : PySem.W.Frag) : R2 := fun x y H Q => ∃ d e, Dp K H x d ∧ Dp K H y e ∧ PySem.W.alike d e = true ∧ d ≠ .none ∧ d.depth ≤ 50 ∧ Q (.bl (PySem.W.dataLt d e)) H
theorem op_uLtD {X : Cx} (hu : X.A.units + 64 < cLine) : OpR X (compareOp .Lt) (uLtD X.K) := by
  intro pins s σ H x y v u Q I rx ry h
  obtain ⟨d, e, h1, h2, h3, h4, h5, q⟩ := h
  obtain ⟨as, r1⟩ := Dp.reads I _ _ _ h1 rx
  obtain ⟨bs, r2⟩ := Dp.reads I _ _ _ h2 ry
  have := Nat.min_le_left d.depth e.depth
  exact PySem.W.lt_data r1 r2 h3 h4 (by omega) ⟨.bl _, H, I, rfl, q⟩
def uMinD (K : PySem.W.Frag) : List V → Hp → VK → Prop := fun vs H Q => ∃ (α : Type) (RR : V → α → Prop) (enc : α → PyData) (a : Addr) (xs : List V) (r : α) (rs : List α), vs = [.ref a] ∧ SqL K H a xs ∧ PySem.W.EachIs RR xs (r :: rs) ∧
  (∀ x r, RR x r → Dp K H x (enc r)) ∧ PySem.W.AlikeAll ((r :: rs).map enc) ∧ PyData.depthAll ((r :: rs).map enc) ≤ 50 ∧ ∀ x m, RR x m → enc m = PySem.W.minD (enc r) (rs.map enc) → Q x H
theorem each_reads {X : Cx} {pins : List (Addr × Obj)} {σ : L2.St} {H : Hp} {s : Shared} (I : Inv X pins σ H s) {α : Type} {RR : V → α → Prop} {enc : α → PyData} (hd : ∀ x r, RR x r → Dp X.K H x (enc r)) : ∀ {xs : List V} {us : List Value} {rs : List α}, Vals xs us → PySem.W.EachIs RR xs rs → ∃ as, ReadsAll s.heap us (rs.map enc) as
  | _, _, _, .nil, .nil => ⟨[], .nil⟩
  | _, _, _, .cons r q, .cons h t => by
    obtain ⟨as, h1⟩ := Dp.reads I _ _ _ (hd _ _ h) r
    obtain ⟨bs, h2⟩ := each_reads I hd q t
    exact ⟨as ++ bs, .cons h1 h2⟩
theorem call_uMinD {X : Cx} (hc : X.calm = true) (hu : X.A.units + 64 < cLine) : CallR X (.builtin "min") (uMinD X.K) := by
  intro pins s σ H vs us Q I r h
  obtain ⟨α, RR, enc, a, xs, r0, rs, rfl, hs, he, hd, ha, hdp, q⟩ := h
  obtain ⟨its, rv, hl, hz⟩ := I.list hs
  obtain ⟨u, rfl, ru⟩ := vals1 r
  obtain rfl : u = Value.ref a := ru
  obtain ⟨as, hr⟩ := each_reads I hd rv he
  refine PySem.W.min_list_data (I.ok.hd hc) hl.isList (x := enc r0) (xs := rs.map enc) (as := as) hr ha (by have e : PyData.depthAll (enc r0 :: rs.map enc) = PyData.depthAll ((r0 :: rs).map enc) := rfl; omega) fun i v h' tk bs hv rd hk => ?_
  have hv' : its[i]? = some v := by simpa using hv
  obtain ⟨b, hb, x, hx, hR⟩ := (each_vals rv he).left v (List.mem_of_getElem? hv')
  refine ⟨x, H, I.kept hk, hx, q x b hR ?_⟩
  obtain ⟨cs, r2⟩ := Dp.reads I _ _ _ (hd _ _ hR) hx
  exact (reads_det (fun b o e _ => hk b o e) r2 rd).1.symm
theorem minD_map {α : Type} (enc : α → PyData) (r : α) (rs : List α) : PySem.W.minD (enc r) (rs.map enc) = enc (rs.foldl (fun a y => if PySem.W.dataLt (enc y) (enc a) then y else a) r) := by
  unfold PySem.W.minD
  induction rs generalizing r with
  | nil => rfl
  | cons b rs ih =>
    rw [List.map_cons, List.foldl_cons, List.foldl_cons, ← ih]
    congr 1
    split <;> rfl
end Wg
namespace Wg
open PySem PySem.Spec PyProof.Rows L2
/-- a for over enumerate(list), behind its argument -/
def FEl (K : PySem.W.Frag) (g : TG) (tb : TS) (D : Ends) (σ : L2.St) (vs : List V) (H1 : Hp) : Prop := ∃ a xs, vs = [.ref a] ∧ SqL K H1 a xs ∧ ∃ W : Nat → Nat → L2.St → Hp → Prop, (∃ m, W 0 m σ H1) ∧ ∀ i m σ H, W i m σ H →
  ((Ite K a).stop i H ∧ D.nx σ H) ∨ ((Ite K a).go i H ∧ ∃ N : L2.St → Hp → Prop, (∀ σ' H', N σ' H' → ∃ m', m' < m ∧ W (i + 1) m' σ' H') ∧ ∀ x H', (Ite K a).yld i H x H' → g x σ H' fun σ2 H2 => tb { D with nx := N, ct := N, bk := D.nx } σ2 H2)
theorem e_forEl {K : PySem.W.Frag} {ta : TA} {g : TG} {tb : TS} {D : Ends} {σ : L2.St} {H : Hp} : tFor (iEnum K ta) g tb D σ H ↔ ta σ H (FEl K g tb D σ) := Iff.rfl
theorem g_FEl {K : PySem.W.Frag} {g : TG} {tb : TS} {D : Ends} {σ : L2.St} {H1 : Hp} {a : Addr} {xs : List V} (Pv : Nat → L2.St → Hp → Prop) (h : H1 a = some (.lst xs)) (h0 : Pv 0 σ H1) (hl : ∀ i σ H, i ≤ xs.length → Pv i σ H → H a = some (.lst xs))
    (hs : ∀ i x σ H T H', xs[i]? = some x → Pv i σ H → H T = none → Keep [] H H' → H' T = some (.tup [.int (i : Nat), x]) → g (.ref T) σ H' fun σ2 H2 => tb { D with nx := Pv (i + 1), ct := Pv (i + 1), bk := D.nx } σ2 H2) (hd : ∀ σ H, Pv xs.length σ H → D.nx σ H) : FEl K g tb D σ [.ref a] H1 := by
  refine ⟨a, xs, rfl, lst_sq h, fun i m σ H => m = xs.length - i ∧ i ≤ xs.length ∧ Pv i σ H, ⟨xs.length, by simp, Nat.zero_le _, h0⟩, ?_⟩
  rintro i m σ H ⟨rfl, hi, p⟩
  have tu := lst_sq (K := K) (hl i σ H hi p)
  by_cases hlt : i < xs.length
  · refine .inr ⟨⟨xs, _, tu, List.getElem?_eq_getElem hlt⟩, Pv (i + 1), fun σ' H' p' => ⟨xs.length - (i + 1), by omega, rfl, hlt, p'⟩, fun x H' y => ?_⟩
    obtain ⟨T, u, rfl, nT, rfl, hu⟩ := y
    exact hs i u σ H T _ (hu xs tu) p nT (Keep.new nT) upd_same
  · have e : i = xs.length := by omega
    subst e
    exact .inl ⟨⟨xs, tu, Nat.le_refl _⟩, hd σ H p⟩
theorem g_truL {K : PySem.W.Frag} {p : Addr} {xs : List V} {H : Hp} {k : Bool} (h : H p = some (.lst xs)) (e : k = !xs.isEmpty) : TruV K (.ref p) H k := .inl ⟨xs, lst_sq h, e⟩
end Wg

/-! Wagon, part 16: list.remove of data; whiles. -/
namespace Wg
open PySem PySem.Spec PyProof.Rows L2
def uRemD (K : PySem.W.Frag) : V → List V → Hp → VK → Prop := fun x vs H Q => ∃ (l : Addr) (xs : List V) (y : V) (d : PyData) (ds : List PyData) (j : Nat), x = .ref l ∧ vs = [y] ∧ H l = some (.lst xs) ∧ DpAll K H xs ds ∧ Dp K H y d ∧
  PyData.plainAll ds = true ∧ d.plain = true ∧ d.depth ≤ 50 ∧ PySem.SeqAt.dataPlace ds d = some j ∧ Ch H l (.lst (xs.eraseIdx j)) (Q .non)
theorem mt_uRemD {X : Cx} (hu : X.A.units + 64 < cLine) : MtM X "list.remove" (uRemD X.K) := by
  intro pins s σ H x vs v us Q I rx rv h
  obtain ⟨l, xs, y, d, ds, j, rfl, rfl, hH, hds, hd, p1, p2, hdp, hj, q⟩ := h
  cases rx
  obtain ⟨u, rfl, ru⟩ := rv.one
  obtain ⟨z, its, n, r, hl, e⟩ := I.lstM hH
  obtain ⟨as, rs⟩ := Dp.readsAll I _ _ _ hds r
  obtain ⟨bs, rd⟩ := Dp.reads I _ _ _ hd ru
  have := Nat.min_le_right (PyData.depthAll ds) d.depth
  refine PySem.SeqAt.remove_list_data (j := j) ⟨_, e, rfl, n, rfl⟩ (by simpa using rs) rd p1 p2 (by omega) hj (by rw [List.size_toArray]; omega) ?_
  refine ⟨.non, _, I.lset (its' := its.eraseIdx j) (ys := xs.eraseIdx j) (t' := s.toks) hH e ?_ (r.eraseIdx j) ?_, rfl, q.at⟩
  · show its.toArray.eraseIdxIfInBounds j = (its.eraseIdx j).toArray
    rw [List.eraseIdxIfInBounds_toArray]
  · have := List.length_eraseIdx_le xs j
    omega
end Wg

/-! Wagon, part 17: tuple + tuple wherever they stand. -/
namespace Wg
open PySem PySem.Spec PyProof.Rows L2
def uAddQ (K : PySem.W.Frag) : R2 := fun x y H Q => ∃ a b xs ys, x = .ref a ∧ y = .ref b ∧ SqT K H a xs ∧ SqT K H b ys ∧ xs ≠ [] ∧ ys ≠ [] ∧ xs.length + ys.length ≤ sizeLine ∧ Mt H (xs ++ ys) Q
theorem op_uAddQ {X : Cx} : OpR X (binaryOp .Add) (uAddQ X.K) := by
  intro pins s σ H x y v u Q I rx ry h
  obtain ⟨a, b, xs, ys, rfl, rfl, ha, hb, e1, e2, z, q⟩ := h
  cases rx
  cases ry
  obtain ⟨its, r1, p1, _⟩ := I.tuple ha
  obtain ⟨its2, r2, p2, _⟩ := I.tuple hb
  refine HT.cat_tup p1 p2 (fun c => e1 (r1.nil_iff.mp c)) (fun c => absurd (r2.nil_iff.mp c) e2) (fun c => ?_) (by rw [← r1.length, ← r2.length]; exact z)
  exact mt_end (t' := s.toks) I (r1.append r2) (by rw [List.length_append]; exact z) q
end Wg

/-! Wagon, part 18: a comprehension of two fors; list.extend by a list or tuple. -/
namespace Wg
open PySem PySem.Spec PyProof.Rows L2

def CU2 (K : PySem.W.Frag) (g : TG) (tt : TT) (wi1 : TI) (g1 : TG) (tt1 : TT) (te : TE) (vs vs1 : List Nat) (σ : L2.St) (Q : VK) (x : V) (H1 : Hp) : Prop := tLc2 (iU K (tC x)) g tt wi1 g1 tt1 te vs vs1 σ H1 Q
theorem e_lc2U {K : PySem.W.Frag} {tl : TE} {g : TG} {tt : TT} {wi1 : TI} {g1 : TG} {tt1 : TT} {te : TE} {vs vs1 : List Nat} {σ : L2.St} {H : Hp} {Q : VK} : tLc2 (iU K tl) g tt wi1 g1 tt1 te vs vs1 σ H Q ↔ tl σ H (CU2 K g tt wi1 g1 tt1 te vs vs1 σ Q) := Iff.rfl
/-- [y for z in zs for y in f(z)], of texts; f(z) a fresh list -/
theorem g_C2 {K : PySem.W.Frag} {tl1 : TE} {σ : L2.St} {H1 : Hp} {Q : VK} {a : Addr} {i j : Nat} {vs vs1 : List Nat} (zs : List Str) (f : Str → List Str) (hx : H1 a = some (.lst (zs.map V.str)) ∨ Tup H1 a (zs.map V.str))
    (hw : ∀ v, wipe ((wipe σ vs).set i v) vs = wipe σ vs) (hw1 : ∀ v u, wipe ((wipe ((wipe σ vs).set i v) vs1).set j u) vs1 = wipe ((wipe σ vs).set i v) vs1) (hw2 : ∀ v, wipe ((wipe σ vs).set i v) vs1 = (wipe σ vs).set i v)
    (hj : ∀ v u, ((wipe ((wipe σ vs).set i v) vs1).set j (some u))[j]? = some (some u))
    (hl : ∀ ws : List Str, (∀ z ∈ ws, z ∈ zs) → ws.length ≤ zs.length → (ws.flatMap f).length < 1000) (hl1 : ∀ z ∈ zs, (f z).length < 1000)
    (hc : ∀ z ∈ zs, ∀ H3 (Q1 : VK), Keep [] H1 H3 → (∀ l H4, H3 l = none → Keep [] H3 H4 → H4 l = some (.lst ((f z).map V.str)) → Q1 (.ref l) H4) → tl1 ((wipe σ vs).set i (some (.str z))) H3 Q1)
    (hd : ∀ D H, H1 D = none → Keep [] H1 H → H D = some (.lst ((zs.flatMap f).map V.str)) → Q (.ref D) H) : CU2 K (gName i) tYes (iU K tl1) (gName j) tYes (tVar j) vs vs1 σ Q (.ref a) H1 := by
  have core : ∀ J : It, (∀ n H, n < zs.length → Keep [] H1 H → J.go n H) → (∀ n H x H', n < zs.length → Keep [] H1 H → J.yld n H x H' → x = .str (zs.getD n "") ∧ H' = H) → (∀ H, Keep [] H1 H → J.stop zs.length H) →
      ∀ D, H1 D = none → ∃ W : Nat → Nat → Hp → Prop, (∃ m, W 0 m (upd H1 D (.lst []))) ∧ ∀ n m H, W n m H →
  (J.stop n H ∧ Q (.ref D) H) ∨ (J.go n H ∧ ∃ Nx : Hp → Prop, (∀ H', Nx H' → ∃ m', m' < m ∧ W (n + 1) m' H') ∧ ∀ x H', J.yld n H x H' → gName i x (wipe σ vs) H' fun σ2 H2 => wipe σ2 vs = wipe σ vs ∧ tYes σ2 H2 fun b H3 =>
    if b = true then iU K tl1 σ2 H3 fun J1 H4 => ∃ W1 : Nat → Nat → Hp → Prop, (∃ m, W1 0 m H4) ∧ ∀ jj k H, W1 jj k H →
      (J1.stop jj H ∧ Nx H) ∨ (J1.go jj H ∧ ∃ Nx1 : Hp → Prop, (∀ H', Nx1 H' → ∃ k', k' < k ∧ W1 (jj + 1) k' H') ∧ ∀ x H', J1.yld jj H x H' → gName j x (wipe σ2 vs1) H' fun σ3 H5 => wipe σ3 vs1 = wipe σ2 vs1 ∧ tYes σ3 H5 fun b H6 =>
        if b = true then tVar j σ3 H6 fun y H7 => ∃ acc, H7 D = some (.lst acc) ∧ acc.length < sizeLine ∧ Nx1 (upd H7 D (.lst (acc ++ [y]))) else Nx1 H6)
    else Nx H3) := by
    intro J hgo hy hst D hD
    refine ⟨fun n m H => m = zs.length - n ∧ n ≤ zs.length ∧ Keep [] H1 H ∧ H D = some (.lst (((zs.take n).flatMap f).map V.str)), ⟨zs.length, by omega, by omega, Keep.new hD, upd_same⟩, ?_⟩
    rintro n m H ⟨rfl, hn, k, eD⟩
    by_cases hlt : n < zs.length
    · refine .inr ⟨hgo n H hlt k, fun H' => Keep [] H1 H' ∧ H' D = some (.lst (((zs.take (n + 1)).flatMap f).map V.str)), fun H' q => ⟨zs.length - (n + 1), by omega, rfl, hlt, q⟩, fun x H' y => ?_⟩
      obtain ⟨ex, eh⟩ := hy n H x H' hlt k y
      have hz : zs[n]? = some (zs.getD n "") := by rw [List.getD_eq_getElem?_getD, List.getElem?_eq_getElem hlt]; rfl
      rw [ex, eh]
      generalize zs.getD n "" = z at hz
      have hzm := List.mem_of_getElem? hz
      have htk : (zs.take (n + 1)).flatMap f = (zs.take n).flatMap f ++ f z := by rw [List.take_succ, hz, List.flatMap_append]; simp
      refine ⟨hw _, ?_⟩
      unfold tYes
      show (if true = true then _ else _)
      rw [if_pos rfl]
      refine hc z hzm H _ k fun l H4 nl k4 e4 => .inl ⟨l, _, rfl, lst_sq e4, ?_⟩
      have nDl : D ≠ l := ne_of_none eD nl
      refine ⟨fun jj kk H' => kk = (f z).length - jj ∧ jj ≤ (f z).length ∧ Keep [D] H4 H' ∧ H' D = some (.lst (((zs.take n).flatMap f ++ (f z).take jj).map V.str)), ⟨(f z).length, by omega, by omega, Keep.refl _ _, by rw [List.take_zero, List.append_nil]; exact k4 _ _ nin0 eD⟩, ?_⟩
      rintro jj kk H5 ⟨rfl, hjj, k5, e5⟩
      have el5 := k5 _ _ (nin1 nDl.symm) e4
      by_cases hlt2 : jj < (f z).length
      · have hy2 : (f z)[jj]? = some (f z)[jj] := List.getElem?_eq_getElem hlt2
        have hym : ((f z).map V.str)[jj]? = some (.str (f z)[jj]) := by rw [List.getElem?_map, hy2]; rfl
        refine .inr ⟨⟨_, _, lst_sq el5, hym⟩, fun H' => Keep [D] H4 H' ∧ H' D = some (.lst (((zs.take n).flatMap f ++ (f z).take (jj + 1)).map V.str)), fun H' q => ⟨(f z).length - (jj + 1), by omega, rfl, hlt2, q⟩, fun x H' y => ?_⟩
        obtain ⟨e1, e2⟩ := y
        have e3 := e2 _ (lst_sq el5)
        rw [hym] at e3
        cases e3
        rw [e1]
        refine ⟨hw1 _ _, ?_⟩
        show (if true = true then _ else _)
        rw [if_pos rfl]
        refine ⟨_, hj _ _, _, e5, ?_, k5.trans Keep.set, ?_⟩
        · have h1 := hl (zs.take n) (fun w hw => List.mem_of_mem_take hw) (by rw [List.length_take]; omega)
          have h2 := hl1 z hzm
          rw [List.length_map, List.length_append, List.length_take]
          exact len_lt (by omega)
        · rw [upd_same, List.take_succ, hy2]
          simp only [List.map_append, Option.toList, List.map_cons, List.map_nil, List.append_assoc]
      · have e : jj = (f z).length := by omega
        subst e
        refine .inl ⟨⟨_, lst_sq el5, by rw [List.length_map]; exact Nat.le_refl _⟩, (k.trans k4).past k5 hD, ?_⟩
        rw [htk, e5, List.take_length]
    · have e : n = zs.length := by omega
      subst e
      rw [List.take_length] at eD
      exact .inl ⟨hst H k, hd D H hD k eD⟩
  have gt : ∀ {n : Nat}, n < zs.length → (zs.map V.str)[n]? = some (.str (zs.getD n "")) := fun h => by
    rw [List.getElem?_map, List.getD_eq_getElem?_getD, List.getElem?_eq_getElem h]; rfl
  rcases hx with hx | hx
  · refine .inl ⟨a, _, rfl, lst_sq hx, core (Itl K a) (fun n H h k => ⟨_, _, lst_sq (k _ _ nin0 hx), gt h⟩) (fun n H x H' h k y => ?_) fun H k => ⟨_, lst_sq (k _ _ nin0 hx), by rw [List.length_map]; exact Nat.le_refl _⟩⟩
    obtain ⟨e1, e2⟩ := y
    have := e2 _ (lst_sq (k _ _ nin0 hx))
    rw [gt h] at this
    cases this
    exact ⟨rfl, e1⟩
  · refine .inr (.inl ⟨a, _, rfl, hx.sq, core (Itt K a) (fun n H h k => ⟨_, _, (hx.keep k nin0).sq, gt h⟩) (fun n H x H' h k y => ?_) fun H k => ⟨_, (hx.keep k nin0).sq, by rw [List.length_map]; exact Nat.le_refl _⟩⟩)
    obtain ⟨e1, e2⟩ := y
    have := e2 _ (hx.keep k nin0).sq
    rw [gt h] at this
    cases this
    exact ⟨rfl, e1⟩
/-- a comprehension within a comprehension, that reads no name of what is around it but by cells that are there -/
theorem blkOk_any {N : List Str} {sc scope : Scope} {own : List (Str × Nat)} (h : blkC N { kind := .function, names := [], isGenerator := false, isCoroutine := false } scope own = true) : BlkOk N sc scope own := by
  have b := blkOk_by h
  exact ⟨b.kind, b.uniq, b.ix, fun y hy e => by rcases b.free y hy e with z | z <;> simp at z, b.own⟩
section
variable {X : Cx}
/-- a proper slice of a tuple wherever it stands -/
def uSlQ (K : PySem.W.Frag) : V → Option Int → Option Int → Hp → VK → Prop := fun x lo hi H Q => ∃ a xs, x = .ref a ∧ SqT K H a xs ∧ ¬ (HT.sIx xs.length 0 lo = 0 ∧ HT.sIx xs.length xs.length hi = xs.length) ∧ Mt H (cutV xs lo hi) Q
theorem sl_uQ : SlR X (uSlQ X.K) := by
  intro pins s σ H x v vl vu lo hi sl Q I rx hs pl pu h
  obtain ⟨a, xs, rfl, hx, c, q2⟩ := h
  cases rx
  obtain ⟨its, r, ht, hz⟩ := I.tuple hx
  have hlen : its.toArray.size = xs.length := by
    rw [List.size_toArray]
    exact r.length.symm
  refine ⟨"tuple", _, PyProof.Rows.slot_tuple_getitem.lookup, ht.typeIs, ?_⟩
  refine HT.getItem_tuple_cut ht hs pl pu (by rw [hlen]; exact c) ?_ (by rw [hlen]; exact hz)
  rw [hlen]
  exact mt_end (t' := s.toks) I ((r.drop (HT.sIx xs.length 0 lo)).take (HT.sIx xs.length xs.length hi - HT.sIx xs.length 0 lo)) (Nat.le_trans (cutV_length xs lo hi) hz) q2
def uExtT : V → List V → Hp → VK → Prop := fun x vs H Q => ∃ l b xs zs, x = .ref l ∧ vs = [.ref b] ∧ H l = some (.lst xs) ∧ (H b = some (.lst zs) ∨ Tup H b zs) ∧ xs.length + zs.length ≤ sizeLine ∧ Ch H l (.lst (xs ++ zs)) (Q .non)
theorem mt_uExtT : MtM X "list.extend" uExtT := by
  intro pins s σ H x vs v us Q I rx rv h
  obtain ⟨l, b, xs, zs, e1, e2, e3, e4, e5, q⟩ := h
  rcases e4 with e4 | e4
  · exact mt_extend pins s σ H x vs v us Q I rx rv ⟨l, b, xs, zs, e1, e2, e3, e4, e5, q.at⟩
  · subst e1 e2
    cases rx
    obtain ⟨u, rfl, ru⟩ := rv.one
    cases ru
    obtain ⟨z, its, n, r, hl, e⟩ := I.lstM e3
    obtain ⟨its2, n2, r2, hl2, e2⟩ := Tup.obj I e4
    have l2 := r2.length
    have hsz : its.toArray.size + its2.toArray.size ≤ sizeLine := by rw [List.size_toArray, List.size_toArray]; omega
    have hlong : ¬ (!its.toArray.isEmpty && Builtin.List.listTooLong (its.toArray.size + its2.toArray.size)) = true := by
      rw [notLongL hsz, Bool.and_false]
      exact Bool.false_ne_true
    refine call_meets F.slot_list_extend ⟨_, e, rfl⟩ F.entry_list_extend (F.args_list_extend_2 _ _)
      (AutoSeq1.list_extend_list_tuple_0 l its.toArray n b its2.toArray n2 hlong (by rw [List.size_toArray]; omega) (by omega)) ⟨e, e2, ?_⟩
    refine ⟨.non, _, I.lset (its' := its ++ its2) e3 e (by simp) (r.append r2) ?_, rfl, q.at⟩
    rw [List.length_append]
    omega
end
theorem g_extT {l b : Addr} {xs zs : List V} {H : Hp} {Q : VK} (h : H l = some (.lst xs)) (e : Tup H b zs) (z : xs.length + zs.length ≤ 1000) (q : ∀ H', Keep [l] H H' → H' l = some (.lst (xs ++ zs)) → Q .non H') : uExtT (.ref l) [.ref b] H Q := ⟨l, b, xs, zs, rfl, rfl, h, .inr e, len_le (by omega), q⟩
end Wg

/-! Wagon, part 19: xs[::k], k 1 or -1, of a list. -/
namespace Wg
open PySem PySem.Spec PyProof.Rows L2
theorem pick_one (items : Array Value) : slicePick items none none (some 1) = items := by
  have h : slicePick items none none (some 1) = slicePick items none none none := rfl
  rw [h, show items = items.toList.toArray by simp, slicePick_cut]
  simp [HT.sIx]
  rw [List.take_of_length_le (by simp)]
section
variable {X : Cx}
def tStepL (K : PySem.W.Frag) (te ts : TE) : TE := fun σ H Q => te σ H fun x H1 => tPart ts σ H1 fun o H2 => ∃ a xs v, x = .ref a ∧ SqL K H2 a xs ∧ o = some v ∧ (v = 1 ∨ v = -1) ∧ ∀ p, H2 p = none → Q (.ref p) (upd H2 p (.lst (if v = 1 then xs else xs.reverse)))
theorem pe_stepL {e es : Expr} {te ts : TE} {p3 pos : Pos} (he : PE X e te) (hs : PE X es ts) : PE X (.Subscript e (.Slice none none (some es) p3) pos) (tStepL X.K te ts) := by
  refine ⟨fun pins s σ H Q I h => ?_⟩
  refine Subscript_ (thn (he.run pins s σ H _ I h) fun v s1 ⟨x, H1, I1, r1, q1⟩ => ?_)
  have hst : PO X (some es) (tPart ts) := po_some hs
  refine wpAny_Slice (thn (po_none.run pins s1 σ H1 (fun o H2 => o = none ∧ H2 = H1) I1 ⟨rfl, rfl⟩) fun vl s2 ⟨l, H2, I2, pl, el, e2⟩ => ?_)
  subst el e2
  refine thn (po_none.run pins s2 σ H2 (fun o H3 => o = none ∧ H3 = H2) I2 ⟨rfl, rfl⟩) fun vu s3 ⟨u, H3, I3, pu, eu, e3⟩ => ?_
  subst eu e3
  refine thn (hst.run pins s3 σ H3 _ I3 q1) fun vs s4 ⟨o, H4, I4, ps, q4⟩ => ?_
  obtain ⟨a, xs, w, ex, hx, eo, hw, q⟩ := q4
  subst ex eo
  cases r1
  have I5 : Inv X pins σ H4 { s4 with heap := s4.heap.push { cls := .type "slice", data := .fields #[vl, vu, vs] } } := I4.kept (t' := s4.toks) fun b ob q => Heap.get?_push_of_some _ q
  obtain ⟨its, r, ht, hz⟩ := I5.list hx
  have hlen := r.length
  show wpAny (model X.prog X.w) X.A (subscriptTail e (.Slice none none (some es) p3) (.ref a) (.ref s4.heap.objs.size)) (EP X pins σ Q) X.xe { s4 with heap := s4.heap.push { cls := .type "slice", data := .fields #[vl, vu, vs] } }
  refine tail_any (ops := [.ref a, .ref s4.heap.objs.size]) ht.isList.typeIs (PySem.slot_list_getitem.lookup) ?_ (by with_unfolding_all rfl)
  refine wpAny_getItem_list_slice ht.isList (Heap.IsSliceOf.new _ vl vu vs) pl pu ps (by rcases hw with rfl | rfl <;> decide) ?_ (by rw [List.size_toArray]; omega)
  rcases hw with rfl | rfl
  · rw [pick_one]
    refine ⟨.ref _, _, I5.laid (t' := s4.toks) (o := .lst xs) (fun b ob q => Heap.get?_push_of_some _ q) (Nat.le_refl _) ?_, rfl, q _ (I5.hok.fresh (Nat.le_refl _))⟩
    exact ⟨hz, _, 0, r, Heap.get?_push_size _ rfl⟩
  · rw [PySem.W.krv_pick]
    refine ⟨.ref _, _, I5.laid (t' := s4.toks) (o := .lst xs.reverse) (fun b ob q => Heap.get?_push_of_some _ q) (Nat.le_refl _) ?_, rfl, q _ (I5.hok.fresh (Nat.le_refl _))⟩
    exact ⟨by rw [List.length_reverse]; exact hz, _, 0, r.reverse, Heap.get?_push_size _ rfl⟩
end
theorem e_stepL {K : PySem.W.Frag} {te ts : TE} {σ : L2.St} {H : Hp} {Q : VK} : tStepL K te ts σ H Q ↔ te σ H fun x H1 => ts σ H1 fun y H2 => ∃ i, y = .int i ∧ ∃ a xs v, x = .ref a ∧ SqL K H2 a xs ∧ some i = some v ∧ (v = 1 ∨ v = -1) ∧ ∀ p, H2 p = none → Q (.ref p) (upd H2 p (.lst (if v = 1 then xs else xs.reverse))) := Iff.rfl
end Wg

/-! Wagon, part 20: a for over zip of two tuples  -/
namespace Wg
open PySem PySem.Spec PyProof.Rows L2 RZ
def FZ (K : PySem.W.Frag) (g : TG) (tb : TS) (D : Ends) (σ : L2.St) (vs : List V) (H1 : Hp) : Prop := tFor (iZipA K (fun _ H Q => Q vs H)) g tb D σ H1
theorem e_forZ {K : PySem.W.Frag} {ta : TA} {g : TG} {tb : TS} {D : Ends} {σ : L2.St} {H : Hp} : tFor (iZipA K ta) g tb D σ H ↔ ta σ H (FZ K g tb D σ) := Iff.rfl
theorem g_FZ {K : PySem.W.Frag} {g : TG} {tb : TS} {D : Ends} {σ : L2.St} {H1 : Hp} {a b : Addr} {xs ys : List V} (Pv : Nat → L2.St → Hp → Prop) (ha : Tup H1 a xs) (hb : Tup H1 b ys) (hl2 : xs.length = ys.length) (h0 : Pv 0 σ H1) (hl : ∀ i σ H, i ≤ xs.length → Pv i σ H → Tup H a xs ∧ Tup H b ys)
    (hs : ∀ i x y σ H T H', xs[i]? = some x → ys[i]? = some y → Pv i σ H → H T = none → Keep [] H H' → H' T = some (.tup [x, y]) → g (.ref T) σ H' fun σ2 H2 => tb { D with nx := Pv (i + 1), ct := Pv (i + 1), bk := D.nx } σ2 H2) (hd : ∀ σ H, Pv xs.length σ H → D.nx σ H) : FZ K g tb D σ [.ref a, .ref b] H1 := by
  refine ⟨a, b, xs, ys, rfl, .inr ⟨ha.sq, hb.sq, fun i m σ H => m = xs.length - i ∧ i ≤ xs.length ∧ Pv i σ H, ⟨xs.length, by simp, Nat.zero_le _, h0⟩, ?_⟩⟩
  rintro i m σ H ⟨rfl, hi, p⟩
  obtain ⟨ta, tb'⟩ := hl i σ H hi p
  by_cases hlt : i < xs.length
  · have hx := List.getElem?_eq_getElem hlt
    have hy := List.getElem?_eq_getElem (show i < ys.length by omega)
    refine .inr ⟨⟨xs, ys, _, _, ta.sq, tb'.sq, hx, hy⟩, Pv (i + 1), fun σ' H' p' => ⟨xs.length - (i + 1), by omega, rfl, hlt, p'⟩, fun x H' y => ?_⟩
    obtain ⟨T, x', y', rfl, nT, rfl, f1, f2⟩ := y
    exact hs i x' y' σ H T _ (f1 xs ta.sq) (f2 ys tb'.sq) p nT (Keep.new nT) upd_same
  · have e : i = xs.length := by omega
    subst e
    exact .inl ⟨⟨xs, ys, ta.sq, tb'.sq, .inl (Nat.le_refl _)⟩, hd σ H p⟩
end Wg

/-! Wagon, part 21: xs[a:b] = ys. -/
namespace Wg
open PySem PySem.Spec PyProof.Rows L2
section
variable {X : Cx}
def gSli (to tl th : TE) : TG := fun v σ H R => to σ H fun x H1 => tl σ H1 fun i H2 => th σ H2 fun j H3 => ∃ l b xs ys a c, x = .ref l ∧ v = .ref b ∧ i = .int a ∧ j = .int c ∧ H3 l = some (.lst xs) ∧ H3 b = some (.lst ys) ∧ l ≠ b ∧ 0 ≤ a ∧ a ≤ c ∧ c ≤ xs.length ∧ xs.length + ys.length ≤ sizeLine ∧
  Ch H3 l (.lst (xs.take a.toNat ++ ys ++ xs.drop c.toNat)) (R σ)
theorem pg_sli {o lo hi : Expr} {to tl th : TE} {p2 pos : Pos} (ho : PE X o to) (hl : PE X lo tl) (hh : PE X hi th)
    (ha : ∀ v, assign (.Subscript o (.Slice (some lo) (some hi) none p2) pos) X.env v = (do
      let ov ← holding [v] (eval o X.env)
      let iv ← holding [v, ov] (eval (.Slice (some lo) (some hi) none p2) X.env)
      standAt pos
      holding [v, ov, iv] (setItem ov iv v)
      release [iv, v, ov] []) := by intro _; rfl) : PG X (.Subscript o (.Slice (some lo) (some hi) none p2) pos) (gSli to tl th) := by
  refine ⟨fun pins s σ H v u Q I r h => ?_⟩
  rw [ha]
  refine wpAny_bind (wpAny_holding (thn (ho.run pins s σ H _ I h) fun ov s1 ⟨x, H1, I1, r1, q1⟩ => ?_))
  refine wpAny_bind (wpAny_holding ?_)
  refine wpAny_Slice ?_
  rw [evalPart_some, evalPart_some, evalPart_none]
  refine thn (hl.run pins s1 σ H1 _ I1 q1) fun vl s2 ⟨i, H2, I2, r2, q2⟩ => thn (hh.run pins s2 σ H2 _ I2 q2) fun vu s3 ⟨j, H3, I3, r3, q3⟩ => ?_
  refine wpAny_pure ?_
  obtain ⟨l, b, xs, ys, a, c, rfl, rfl, rfl, rfl, e1, e2, ne, h0, hac, hc, hz, q⟩ := q3
  cases r1
  cases r
  have I4 : Inv X pins σ H3 { s3 with heap := s3.heap.push { cls := .type "slice", data := .fields #[vl, vu, .none] } } := I3.kept (t' := s3.toks) fun b ob q => Heap.get?_push_of_some _ q
  refine wpAny_bind (wpAny_standAt (wpAny_bind (wpAny_holding (set_slice I4 e1 e2 ne (Heap.IsSliceOf.new ..) r2 r3 h0 hac hc hz fun s' I5 => ?_))))
  exact wpAny_release ⟨σ, _, I5, q.at⟩
end
end Wg

/-! Wagon, part 22: min(xs, default=None) of a list of ints. -/
namespace Wg
open PySem PySem.Spec PyProof.Rows L2
section
variable {X : Cx}
def tMinN (K : PySem.W.Frag) (ta : TE) : TE := fun σ H Q => ta σ H fun x H1 => ∃ a ns, x = .ref a ∧ SqL K H1 a (ns.map V.int) ∧ (ns = [] → Q .non H1) ∧ ∀ m, m ∈ ns → (∀ y, y ∈ ns → m ≤ y) → Q (.int m) H1
theorem pe_minN {a : Expr} {ta : TE} {j : Nat} {p p2 p3 pos : Pos} (hc : X.calm = true) (hu : X.A.units + 64 < cLine) (hg : Gl X "min") (hm : X.mg "min" = none) (ha : PE X a ta)
    (he : backTo pos (starEach [a] X.env) = (false, eval a X.env) :: backTo pos (starEach [] X.env) := by rfl) :
    PE X (.Call (.Name "min" p) [a] [⟨some "default", .Constant .none j p2, p3⟩] pos) (tMinN X.K ta) := by
  refine ⟨fun pins s σ H Q I h => ?_⟩
  refine wpAny_Call_Name_kw (ld_blt I hg hm (show bootBuiltins "min" = some (.builtin "min") by decide +kernel) ?_)
  refine PyProof.Rows.callWith_kw ?_ he (by rw [he]; rfl)
  rw [he]
  refine Calls.spliced_cons (thn (ha.run pins s σ H _ I h) fun v s1 ⟨x, H1, I1, r1, q1⟩ => ?_)
  refine Calls.spliced_nil ?_
  obtain ⟨l, ns, rfl, hs, q0, q⟩ := q1
  cases r1
  obtain ⟨its, rv, hl, hz⟩ := I1.list hs
  refine PyProof.Rows.kws_cons (Constant_none (PyProof.Rows.kws_nil ?_))
  show wpAny _ _ (call (.builtin "min") [Value.ref l] [(Str.ofString "default", Value.none)]) _ _ _
  have dps : ∀ ns : List Int, DpAll X.K H1 (ns.map V.int) (ns.map .int) := fun ns => by
    induction ns with
    | nil => exact .nil
    | cons n ns ih => exact .cons (.int n) ih
  obtain ⟨as, hr⟩ := Dp.readsAll I1 _ _ _ (dps ns) rv
  have al : PySem.W.AlikeAll (ns.map .int) := by
    refine ⟨fun x hx y hy => ?_, fun x hx => ?_⟩
    · obtain ⟨i, _, rfl⟩ := List.mem_map.mp hx
      obtain ⟨j, _, rfl⟩ := List.mem_map.mp hy
      rfl
    · obtain ⟨i, _, rfl⟩ := List.mem_map.mp hx
      exact fun z => nomatch z
  have dp : PyData.depthAll (ns.map .int) = 0 := by
    clear hr al dps q0 q hs rv hz
    induction ns with
    | nil => simp [PyData.depthAll]
    | cons n ns ih => simp [PyData.depthAll, PyData.depth, ih]
  refine PySem.W.min_list_default (I1.ok.hd hc) hl.isList (as := as) hr al (by omega) (fun e h' tk hk => ?_) fun y ys i v h' tk bs e hv rd hk => ?_
  · exact ⟨.non, H1, I1.kept hk, rfl, q0 (List.map_eq_nil_iff.mp e)⟩
  · cases ns with
    | nil => cases e
    | cons n ns =>
      rw [List.map_cons] at e
      cases e
      rw [PySem.W.minD_ints] at rd
      obtain ⟨t, rfl⟩ : ∃ t, v = .int (ns.foldl min n) t := by
        cases rd
        exact ⟨_, rfl⟩
      have h1 : ∀ (ns : List Int) (n : Int), ns.foldl min n ∈ n :: ns ∧ ∀ y ∈ n :: ns, ns.foldl min n ≤ y := by
        intro ns
        induction ns with
        | nil => intro n; exact ⟨List.mem_singleton.mpr rfl, fun y hy => by rw [List.mem_singleton.mp hy]; exact Int.le_refl _⟩
        | cons m ns ih =>
          intro n
          obtain ⟨a, b⟩ := ih (min n m)
          rw [List.foldl_cons]
          have c := b (min n m) (List.mem_cons_self)
          refine ⟨?_, fun y hy => ?_⟩
          · rcases List.mem_cons.mp a with a | a
            · rw [a]
              by_cases hle : n ≤ m
              · rw [Int.min_eq_left hle]; simp
              · rw [Int.min_eq_right (by omega)]; simp
            · simp [a]
          · rcases List.mem_cons.mp hy with rfl | hy
            · exact Int.le_trans c (Int.min_le_left _ _)
            · rcases List.mem_cons.mp hy with rfl | hy
              · exact Int.le_trans c (Int.min_le_right _ _)
              · exact b y (List.mem_cons_of_mem _ hy)
      exact ⟨.int _, H1, I1.kept hk, ⟨t, rfl⟩, q _ (h1 ns n).1 (h1 ns n).2⟩
end
end Wg

/-! Wagon, part 23: a comprehension over enumerate(tuple); the order of tuples that begin with numbers. -/
namespace Wg
open PySem PySem.Spec PyProof.Rows L2
def CEn (g : TG) (tt : TT) (te : TE) (vs : List Nat) (σ : L2.St) (Q : VK) (ws : List V) (H1 : Hp) : Prop := ∃ a xs, ws = [.ref a] ∧ Tup H1 a xs ∧ CB (Itn a xs) g tt te vs σ Q H1
theorem e_lcEn {K : PySem.W.Frag} {ta : TA} {g : TG} {tt : TT} {te : TE} {vs : List Nat} {σ : L2.St} {H : Hp} {Q : VK} : tLc (iEnumU K ta) g tt te vs σ H Q ↔ ta σ H (CEn g tt te vs σ Q) := Iff.rfl
theorem g_CEn {K : PySem.W.Frag} {g : TG} {tt : TT} {te : TE} {vs : List Nat} {σ : L2.St} {Q : VK} {H1 : Hp} {a : Addr} {us : List V} (ha : Tup H1 a us) (P : Nat → Hp → List V → Prop)
    (p0 : ∀ D H2, H1 D = none → Keep [] H1 H2 → P 0 H2 [])
    (ps : ∀ D i x H acc (R : VK) (R0 : Hp → Prop) T H', H1 D = none → us[i]? = some x → Keep [] H1 H' → H' D = some (.lst acc) → Keep [] H H' → P i H acc → H' T = some (.tup [.int (i : Nat), x]) →
      (∀ z H4, Keep [] H' H4 → acc.length < sizeLine → (∀ H5, Keep [D] H4 H5 → P (i + 1) H5 (acc ++ [z])) → R z H4) → (∀ H3, Keep [] H' H3 → P (i + 1) H3 acc → R0 H3) →
      g (.ref T) (wipe σ vs) H' fun σ2 H2 => wipe σ2 vs = wipe σ vs ∧ tt σ2 H2 fun bb H3 => if bb = true then te σ2 H3 R else R0 H3)
    (pd : ∀ D H acc, H1 D = none → Keep [] H1 H → H D = some (.lst acc) → P us.length H acc → Q (.ref D) H) : CEn g tt te vs σ Q [.ref a] H1 := by
  refine ⟨a, us, rfl, ha, fun D hD => ?_⟩
  refine ⟨fun i m H => m = us.length - i ∧ i ≤ us.length ∧ Keep [] H1 H ∧ ∃ acc, H D = some (.lst acc) ∧ P i H acc, ⟨us.length, by omega, by omega, Keep.new hD, [], upd_same, p0 D _ hD (Keep.new hD)⟩, ?_⟩
  rintro i m H ⟨rfl, hi, k, acc, eD, p⟩
  have ta := ha.keep k nin0
  by_cases hlt : i < us.length
  · have hx := List.getElem?_eq_getElem hlt
    refine .inr ⟨⟨hlt, ta⟩, fun H' => i + 1 ≤ us.length ∧ Keep [] H1 H' ∧ ∃ acc, H' D = some (.lst acc) ∧ P (i + 1) H' acc, fun H' q => ⟨us.length - (i + 1), by omega, rfl, q⟩, fun v H' y => ?_⟩
    obtain ⟨T, x', rfl, hT, rfl, f1⟩ := y
    have kn : Keep [] H (upd H T (.tup [.int (i : Nat), x'])) := Keep.new hT
    refine ps D i x' H acc _ _ T _ hD f1 (k.trans kn) (kn _ _ nin0 eD) kn p upd_same (fun z H4 k4 hz q => ⟨acc, k4 _ _ nin0 (kn _ _ nin0 eD), hz, hlt, (k.trans (kn.trans k4)).past Keep.set hD, _, upd_same, q _ Keep.set⟩) fun H3 k3 q => ⟨hlt, k.trans (kn.trans k3), acc, k3 _ _ nin0 (kn _ _ nin0 eD), q⟩
  · have e : i = us.length := by omega
    subst e
    exact .inl ⟨⟨rfl, ta⟩, pd D H acc hD k eD p⟩
theorem lt_of_head {a b : Int} {r r' : List PyData} (h : a < b) : PySem.W.dataLt (.tuple (.int a :: r)) (.tuple (.int b :: r')) = true := by
  unfold PySem.W.dataLt
  simp only [PySem.W.keyToks, PySem.W.keyToksAll, List.cons_append, List.nil_append]
  simp [PyProof.Rows.lexLt, PyProof.Rows.itemOrd]
  refine .inr ⟨by decide, .inl ?_⟩
  simp [PyProof.Rows.itemLt, h]
theorem nlt_of_head {a b : Int} {r r' : List PyData} (h : b < a) : PySem.W.dataLt (.tuple (.int a :: r)) (.tuple (.int b :: r')) = false := by
  have h1 := lt_of_head (r := r') (r' := r) h
  cases e : PySem.W.dataLt (.tuple (.int a :: r)) (.tuple (.int b :: r')) with
  | false => rfl
  | true =>
    have h2 := (PyProof.Rows.listOrd PyProof.Rows.itemOrd).trans (PySem.W.keyToks (.tuple (.int b :: r'))) (PySem.W.keyToks (.tuple (.int a :: r))) (PySem.W.keyToks (.tuple (.int b :: r'))) h1 e
    have h3 := (PyProof.Rows.listOrd PyProof.Rows.itemOrd).irrefl (PySem.W.keyToks (.tuple (.int b :: r')))
    exact Bool.noConfusion (h3.symm.trans h2)
end Wg

/-! Wagon, part 24: len(set(xs)) of a list of texts, none told twice. -/
namespace Wg
open PySem PySem.Spec PyProof.Rows L2
section
variable {P : Program} {w : World} {A : Around} {R : Result → Shared → Prop} {it : Addr} {near own : List Addr} {G : Array GenState → Array GenState → Prop} {n : Nat} {Pv : Nat → Value → Prop} {St : Nat → Shared → Prop}
variable {K : Type} [DecidableEq K] [BEq K] [LawfulBEq K] {kd : KeyKind P w K}
theorem nodup_next {ks : List K} (nd : ks.Nodup) {i : Nat} (h : i < ks.length) : ks[i] ∉ ks.take i := fun hm => by
  obtain ⟨j, hj, e⟩ := List.getElem_of_mem hm
  rw [List.length_take] at hj
  rw [List.getElem_take] at e
  exact List.pairwise_iff_getElem.mp nd j i (by omega) h (by omega) e
/-- what set.update does over what walks through keys of one kind, none twice -/
theorem put_all (W : WalksS P w A.in1 it near own G n Pv St) {c : Addr} (hc : c ∉ near) {ks : List K} (hl : ks.length = n) (nd : ks.Nodup) (few : n + 1 < scanBound)
    (hv : ∀ i v, Pv i v → ∃ h : i < ks.length, kd.is ks[i] v = true ∧ v.scannable = true) :
    ∀ (m i : Nat), i + m = n → ∀ s : Shared, St i s → s.heap.SetOf kd c (fun k => decide (k ∈ ks.take i)) i →
      (∀ s', Moved (c :: own) G s s' → s'.heap.SetOf kd c (fun k => decide (k ∈ ks)) n → R (.ok (.ret .none)) s') →
      codeAny (model P w) A (.builtin "set.update.loop" ⟨[.ref c, .ref it], []⟩) R s := by
  have nc : c ∉ own := fun h => hc (W.sub c h)
  have up : ∀ {h h' : Heap} {S : K → Bool} {q : Nat}, h.SetOf kd c S q → (∀ o, h.get? c = some o → h'.get? c = some o) → h'.SetOf kd c S q := fun x k => by
    obtain ⟨o, es, ep, t, ho, x⟩ := x
    exact ⟨o, es, ep, t, k o ho, x⟩
  intro m
  induction m with
  | zero =>
    intro i e s st hS fin
    have e : i = n := e
    subst e
    refine codeAny_builtin PyProof.Rows.F.entry_set_update_loop ?_
    rw [Around.under_plainId PyProof.Rows.F.plain_set_update_loop]
    refine wpAny_bind (m := pyNext (.ref it)) (W.done s _ _ st fun s' mv => wpAny_pure (fin s' (mv.mono fun _ h => .tail _ h) ?_))
    have := up hS fun o ho => mv.heap c o nc ho
    have all : ks.take i = ks := by rw [← hl, List.take_length]
    simpa only [all] using this
  | succ m ih =>
    intro i e s st hS fin
    refine codeAny_builtin PyProof.Rows.F.entry_set_update_loop ?_
    rw [Around.under_plainId PyProof.Rows.F.plain_set_update_loop]
    refine wpAny_bind (m := pyNext (.ref it)) (W.item i s _ _ (by omega) st fun v s1 pv st1 mv => ?_)
    obtain ⟨hi, hk, sc⟩ := hv i v pv
    refine wpAny_bind (m := holding [v] (setAdd c v)) (wpAny_holding ?_)
    unfold setAdd
    refine wpAny_holding (wpAny_bind (kd.pyHash hk ?_))
    refine wpAny_setAddHashed_of (s := { s1 with toks := s1.toks + 1 }) hk sc (up hS fun o ho => mv.heap c o nc ho) (by omega) fun h2 same hS2 => ?_
    have no := nodup_next nd hi
    rw [if_neg (by rw [decide_eq_true_eq]; exact no)] at hS2
    have hS3 : h2.SetOf kd c (fun k => decide (k ∈ ks.take (i + 1))) (i + 1) := by
      refine PyProof.Rows.SetOf_congr hS2 (fun k => ?_) rfl
      rw [List.take_succ, List.getElem?_eq_getElem hi]
      simp only [Option.toList_some, List.mem_append, List.mem_singleton, Bool.decide_or]
    refine wpAny_pure ⟨plainId_quiet PyProof.Rows.F.plain_set_update_loop _, ih (i + 1) (by omega) _ (W.frame _ s1 _ _ st1 (Nat.le_succ _) fun b hb o ho => ?_) hS3 fun s2 mv2 hS4 => ?_⟩
    · rw [same.2 b fun x => hc (x ▸ hb)]
      exact ho
    · refine fin s2 (Moved.trans W.gtrans ((mv.mono fun _ h => .tail _ h).then_heap (Nat.le_succ _) fun b o hb ho => ?_) mv2) hS4
      rw [same.2 b fun x => hb (x ▸ .head _)]
      exact ho
end
section
variable {P : Program} {w : World} {A : Around} {E : Value → Shared → Prop} {s : Shared} {K : Type} [DecidableEq K] [BEq K] [LawfulBEq K] {kd : KeyKind P w K}
theorem set_of {l : Addr} {vs : Array Value} {ks : List K} {Q : Value → Shared → Prop} (hh : A.handled = none) (hl : s.heap.IsList l vs) (hn : ks.length = vs.size) (nd : ks.Nodup) (few : vs.size + 1 < scanBound)
    (hv : ∀ (i : Nat) (v : Value), vs[i]? = some v → ∃ h : i < ks.length, kd.is ks[i] v = true ∧ v.scannable = true)
    (q : ∀ (h : Heap) (t : Nat), h.SetOf kd s.heap.objs.size (fun k => decide (k ∈ ks)) vs.size → (∀ b o, b < s.heap.objs.size → s.heap.get? b = some o → h.get? b = some o) → Q (.ref s.heap.objs.size) { s with heap := h, toks := t }) :
    wpAny (model P w) A (call (.type "set") [.ref l]) Q E s := by
  obtain ⟨cl, rest, hmro⟩ := PySem.F.called_set.mro
  have f1 := PySem.F.called_set.made
  have f2 := PySem.F.called_set.sub
  have f3 := PySem.F.called_set.notType
  have f4 := PySem.F.called_set.canCreate
  have f5 := PySem.F.typeCall_set_1 (.ref l)
  have f6 := PySem.F.called_set.init.lookup
  have f7 := PySem.F.called_set.init.bind (.ref s.heap.objs.size)
  refine wpAny_call (codeAny_of_tree ?_)
  change wpAny _ _ (callAny (.type "set") _) _ _ _
  refine wpAny_pure ⟨Code.quiet_builtin _ (by decide +kernel), codeAny_builtin PySem.F.entry_type_call ?_⟩
  rw [Around.under_plain (weight_type_call_type "set" [.ref l] []) rfl]
  repeat (any_goals (first | assumption | wp_step))
  refine codeAny_mono (code_set_new_1 (.ref l) (E := E) (Q₁ := fun r s1 => ∃ b : Bool, r = .ref s.heap.objs.size ∧ s1 = { s with heap := s.heap.push { cls := .type "set", dict := none, data := .set #[] 0 (.fresh 0 0 b) } }) fun b => ⟨b, rfl, rfl⟩) fun r s1 hr => ?_
  rcases r with x | fl
  · exact hr
  cases fl with
  | ret r =>
    obtain ⟨b, rfl, rfl⟩ := hr
    have at0 : (s.heap.push { cls := .type "set", dict := none, data := .set #[] 0 (.fresh 0 0 b) }).get? s.heap.objs.size = some { cls := .type "set", dict := none, data := .set #[] 0 (.fresh 0 0 b) } := Heap.get?_push_size _ rfl
    have ty0 : Shared.TypeIs { s with heap := s.heap.push { cls := .type "set", dict := none, data := .set #[] 0 (.fresh 0 0 b) } } (.ref s.heap.objs.size) "set" := ⟨_, at0, rfl⟩
    repeat (any_goals (first | assumption | wp_step))
    refine codeAny_mono (codeAny_call_builtin (R := wants (fun r s2 => r = .none ∧ ∃ h t, s2 = { s with heap := h, toks := t } ∧ h.SetOf kd s.heap.objs.size (fun k => decide (k ∈ ks)) vs.size ∧
      ∀ b o, b < s.heap.objs.size → s.heap.get? b = some o → h.get? b = some o) E) PySem.F.called_set.init.plain PySem.F.entry_set_init (check_set_init_1 ty0 ?_)) fun r2 s2 hr2 => ?_
    · obtain ⟨⟨kc, kd1, kdat, ksl⟩, g1, g2, nl, g3⟩ := hl
      simp only at g2 g3
      subst g2 g3
      have t1 := PySem.F.sub_list_set
      have t2 := PySem.F.sub_list_frozenset
      have t3 : (Value.type "list" == Value.type "dict") = false := by decide
      have g4 := Heap.get?_push_of_some ({ cls := .type "set", dict := none, data := .set #[] 0 (.fresh 0 0 b) } : Obj) g1
      have here : (s.heap.push { cls := .type "set", dict := none, data := .set #[] 0 (.fresh 0 0 b) }).IsList l vs := ⟨_, g4, rfl, nl, rfl⟩
      have low : l < s.heap.objs.size := Heap.lt_size g1
      unfold Builtin.«set.__init__» noKeywords Builtin.Frozenset.updateFrom
      generalize hpy : pyIter = py
      wp_walk
      subst hpy
      refine wpAny_pyIter_list here (wpAny_bind (wpAny_runValue ?_))
      have sz : (s.heap.push { cls := .type "set", dict := none, data := .set #[] 0 (.fresh 0 0 b) }).objs.size = s.heap.objs.size + 1 := Heap.size_push _ _
      have apart : l ≠ s.heap.objs.size + 1 := Nat.ne_of_lt (Nat.lt_succ_of_lt low)
      have own : s.heap.objs.size ≠ s.heap.objs.size + 1 := Nat.ne_of_lt (Nat.lt_succ_self _)
      have quiet : A.in1.in1.in1.handled = none := by simp [hh]
      refine put_all (kd := kd) ((Walks.list quiet _ l (by rw [sz]; exact apart) vs).toS) (c := s.heap.objs.size) (by rw [sz]; simp only [List.mem_cons, List.not_mem_nil, or_false]; exact fun x => x.elim own (Nat.ne_of_gt low)) hn nd few hv vs.size 0 (by omega) _
        ⟨⟨_, Heap.get?_push_size _ rfl, rfl, rfl⟩, here.push _⟩ ?_ fun s2 mv hS => ?_
      · exact PyProof.Rows.SetOf_congr ((PyProof.Rows.setObjOf_fresh (knd := kd) b).setOf (Heap.get?_push_of_some _ at0) (by unfold scanBound; omega)) (fun k => by simp) rfl
      · obtain ⟨h2, gg, dd, tt, oo⟩ := s2
        obtain rfl : gg = s.gens := mv.gens
        obtain rfl : dd = s.drawn := mv.drawn
        obtain rfl : oo = s.os := mv.os
        refine wpAny_pure (wpAny_pure ⟨rfl, h2, tt, rfl, hS, fun a o ha ho => mv.heap a o ?_ (Heap.get?_push_of_some _ (Heap.get?_push_of_some _ ho))⟩)
        rw [sz]
        simp only [List.mem_cons, List.not_mem_nil, or_false]
        exact fun x => x.elim (Nat.ne_of_lt ha) (Nat.ne_of_lt (Nat.lt_succ_of_lt ha))
    · rcases r2 with x | f2
      · exact hr2
      cases f2 with
      | ret r =>
        obtain ⟨rfl, h, t, rfl, hS, old⟩ := hr2
        repeat (any_goals (first | assumption | wp_step))
        exact q _ _ hS old
      | _ => exact hr2.elim
  | _ => exact hr.elim
end
section
variable {X : Cx}
theorem text_at : ∀ {xs : List Str} {vs : List Value}, Vals (xs.map V.str) vs → ∀ (i : Nat) (v : Value), vs[i]? = some v → ∃ h : i < xs.length, (strKind X.prog X.w).is xs[i] v = true ∧ v.scannable = true
  | [], _, .nil, i, v, h => by simp at h
  | x :: xs, _, .cons r _, 0, v, h => by
    obtain ⟨t, rfl⟩ := r
    obtain rfl : Value.str x t = v := Option.some.inj h
    exact ⟨Nat.succ_pos _, strKind_is _ _ _ _, rfl⟩
  | x :: xs, _, .cons _ t, i + 1, v, h => by
    obtain ⟨g, q⟩ := text_at t i v h
    exact ⟨Nat.succ_lt_succ g, q⟩
def tLenTexts (K : PySem.W.Frag) (ta : TE) : TE := fun σ H Q => ta σ H fun x H1 => ∃ (l : Addr) (xs : List Str), x = V.ref l ∧ SqL K H1 l (xs.map V.str) ∧ xs.Nodup ∧ xs.length < 64 ∧ Q (.int xs.length) H1
theorem pe_lenTexts {a : Expr} {ta : TE} {p p2 q pos : Pos} (calm : X.calm = true) (g1 : Gl X "len") (m1 : X.mg "len" = none) (g2 : Gl X "set") (m2 : X.mg "set" = none) (pa : PE X a ta)
    (each : starEach [a] X.env = (false, eval a X.env) :: starEach [] X.env := by rfl) : PE X (.Call (.Name "len" p) [.Call (.Name "set" p2) [a] [] q] [] pos) (tLenTexts X.K ta) := by
  refine ⟨fun pins s σ H Q I h => Call_ (ld_blt I g1 m1 boot_len (PyProof.Rows.callWith_builtin1 (PyProof.Rows.args_cons ?_ rfl) rfl rfl))⟩
  refine Call_ (ld_blt I g2 m2 boot_set (PyProof.Rows.callWith_type1 (PyProof.Rows.args_cons (thn (pa.run pins s σ H _ I h) fun v s1 ⟨x, H1, J, r, hx⟩ => PyProof.Rows.args_nil ?_) each) each rfl))
  obtain ⟨l, xs, rfl, sq, nd, few, hx⟩ := hx
  cases r
  obtain ⟨vs, rv, lv, _⟩ := J.list sq
  have sz : xs.length = vs.toArray.size := by rw [List.size_toArray, ← rv.length, List.length_map]
  refine set_of (kd := strKind X.prog X.w) (J.ok.hd calm) lv.isList sz nd (by unfold scanBound; omega) (fun i v e => text_at rv i v (by simpa using e)) fun h2 t hS old => PyProof.Rows.args_nil ?_
  obtain ⟨o, es, ep, tb, ho, ex, hd, _, _, _, fit, hn⟩ := hS
  rw [← sz] at hn
  exact call_len_set ho ex hd fit (by rw [hn]; omega) ⟨.int xs.length, H1, (J.kept fun b o e => old b o (Heap.lt_size e) e).tok _, ⟨_, by rw [hn]⟩, hx⟩
end
section
/-- sorted(d) of a dict whose keys are texts -/
def uSortD : List V → Hp → VK → Prop := fun xs H Q => ∃ (a : Addr) (kvs : List (Key × V)) (ks : List Str), xs = [.ref a] ∧ H a = some (.dK kvs) ∧ kvs.map (·.1) = ks.map Sum.inr ∧ ks.length < 64 ∧
  ∀ ys, ys.Perm ks → sortedS ys = true → Mk H (.lst (ys.map V.str)) Q
theorem call_uSortD {X : Cx} (hc : X.calm = true) : CallR X (.builtin "sorted") uSortD := by
  intro pins s σ H xs us Q I r h
  obtain ⟨a, kvs, ks, e, ha, hk, hl, q⟩ := h
  exact call_sortedD hc pins s σ H xs us Q I r ⟨a, kvs, ks, e, .inl ha, hk, hl, fun ys p h1 h2 n => q ys h1 h2 p _ n (Keep.new n) upd_same⟩
theorem lt_tri {a b : Str} (h1 : ltCps a.cps.toList b.cps.toList = false) (h2 : ltCps b.cps.toList a.cps.toList = false) : a = b := by
  rw [ltCps_eq, decide_eq_false_iff_not] at h1 h2
  have e : a.cps.toList = b.cps.toList := List.le_antisymm (List.not_lt.mp h2) (List.not_lt.mp h1)
  obtain ⟨a⟩ := a
  obtain ⟨b⟩ := b
  have e2 : a.toList = b.toList := e
  rw [Array.toList_inj.mp e2]
theorem rising_pw : ∀ (l : List Str) (p : Str), risingS p l = true → (p :: l).Pairwise fun a b => ltCps b.cps.toList a.cps.toList = false
  | [], p, _ => List.pairwise_singleton _ _
  | x :: l, p, h => by
    have h' : (!ltCps x.cps.toList p.cps.toList && risingS x l) = true := h
    rw [Bool.and_eq_true, Bool.not_eq_true'] at h'
    have ih := rising_pw l x h'.2
    refine List.pairwise_cons.mpr ⟨fun y hy => ?_, ih⟩
    rcases List.mem_cons.mp hy with rfl | hy
    · exact h'.1
    · have h2 := (List.pairwise_cons.mp ih).1 y hy
      have h1 := h'.1
      rw [ltCps_eq, decide_eq_false_iff_not] at h1 h2 ⊢
      exact List.not_lt.mpr (List.le_trans (List.not_lt.mp h1) (List.not_lt.mp h2))
theorem sort_pw : ∀ {l : List Str}, sortedS l = true → l.Pairwise fun a b => ltCps b.cps.toList a.cps.toList = false
  | [], _ => .nil
  | x :: l, h => rising_pw l x h
theorem sort_one {xs ys : List Str} (h1 : xs.Pairwise fun a b => ltCps b.cps.toList a.cps.toList = false) (h2 : sortedS ys = true) (p : ys.Perm xs) : ys = xs :=
  List.Perm.eq_of_pairwise (fun a b _ _ x y => lt_tri y x) (sort_pw h2) h1 p
end
end Wg

/-! Wagon, part 26: own classes: C(e, ..), o.m(e, ..), by promises of the kind Keeps. -/
namespace Wg
open PySem PySem.Spec PyProof.Rows L2
section
variable {X : Cx} {CX : CXT} {k : Nat} {C f : Addr} {fd : FuncData} {ps : List Str} {sp : Sp} {E : XK} {x m : Str} {p pos apos : Pos} {o e : Expr} {es : List Expr} {ta : TE} {t : TA}
/-- what a call of a class asks: two new places, the instance and its dict -/
def MadeAt (sp : Sp) (E : XK) (C : Addr) (vs : List V) (H : Hp) (Q : VK) : Prop :=
  ∀ i d, H i = none → H d = none → d ≠ i → sp (.ref i :: vs) (upd (upd H d (.own i)) i (.ins C d [])) (fun v H' => v = .non ∧ Q (.ref i) H') E
theorem made_go {pins : List (Addr × Obj)} {σ : L2.St} {H : Hp} {s : Shared} {Q : VK} {us : List Value} {vs : List V}
    (M : L2.Mk X.K C f) (F : Keeps X.prog X.w X.K X.mg X.base CX k f fd ps sp) (hr : Rm (k + 1) X.A) (hb : Binds X.K fd ps []) (hx : Passes CX X E)
    (I : Inv X pins σ H s) (r : Vals vs us) (h : MadeAt sp E C vs H Q) : wpAny (model X.prog X.w) X.A (call (.ref C) us) (EP X pins σ Q) X.xe s := by
  let i : Addr := s.heap.objs.size + 1
  let d : Addr := s.heap.objs.size
  have g : sp (.ref i :: vs) _ _ _ := h i d (I.hok.fresh (Nat.le_succ _)) (I.hok.fresh (Nat.le_refl _)) (Nat.ne_of_lt (Nat.lt_succ_self _))
  have J := Inv.made (C := C) I
  have rr : Vals (V.ref i :: vs) (Value.ref i :: us) := .cons rfl r
  have len : ((Value.ref i :: us) ++ []).length = ps.length := by
    rw [List.append_nil, ← rr.length]
    exact F.len _ _ _ _ g
  have bd := hb _ (Value.ref i :: us) J.kIn len
  rw [List.append_nil] at bd
  have go := F.run _ X.stack _ _ ⟨Value.ref i :: us, []⟩ (Value.ref i :: us) _ _ E ⟨hr.rm.make C us [], hr.gd⟩ (J.env0.make C us []) bd rr g
  refine wpAny_call ?_
  refine make_map (f := f) I.kIn M.makes M.init (beq_iff_eq.mp M.fn) ?_
  refine codeAny_mono go fun res s' hq => ?_
  match res, hq with
  | .error u, hq => exact hx pins σ _ _ u s' J hq
  | .ok (.ret u), hq =>
    obtain ⟨v, H', J', rv, rfl, q⟩ := J.after hq
    exact ⟨rv, V.ref (s.heap.objs.size + 1), H', J', rfl, q⟩
  | .ok .next, hq => exact hq.elim
  | .ok .brk, hq => exact hq.elim
  | .ok .cont, hq => exact hq.elim
/-- C(e, ..), C an own class -/
def tNewC (sp : Sp) (E : XK) (C : Addr) (t : TA) : TE := fun σ H Q => t σ H fun vs H1 => MadeAt sp E C vs H1 Q
theorem pe_newC (M : L2.Mk X.K C f) (F : Keeps X.prog X.w X.K X.mg X.base CX k f fd ps sp) (hr : Rm (k + 1) X.A) (hg : Gl X x) (hm : X.mg x = some (.ref C)) (hb : Binds X.K fd ps []) (hx : Passes CX X E) (ha : PA X (e :: es) t)
    (hdb : (x == ("__debug__" : Str)) = false := by decide) (he : starEach (e :: es) X.env = (false, eval e X.env) :: starEach es X.env := by rfl) (hpl : (backTo pos (starEach es X.env)).any (·.1) = false := by rfl) :
    PE X (.Call (.Name x p) (e :: es) [] pos) (tNewC sp E C t) := by
  constructor
  intro pins s σ H Q I h
  have args := ha.run pos pins s σ H _ I h
  refine wpAny_Call_Name_kw (ld_glob I hg hm (PySem.W.callWith_K (h₀ := X.base) I.ok.mod.kin M.kp (thn args fun us s1 hh => ?_) he hpl) hdb)
  obtain ⟨vs, H1, J, r, q⟩ := hh
  exact ⟨J.kIn, made_go M F hr hb hx J r q⟩
/-- o.m(e, ..), m a method of an own class -/
def tMth (C : Addr) (m : Str) (sp : Sp) (E : XK) (ta : TE) (t : TA) : TE := fun σ H Q => ta σ H fun x H1 => ∃ a d fs, x = .ref a ∧ H1 a = some (.ins C d fs) ∧ fs.lookup m = none ∧ t σ H1 fun vs H2 => sp (x :: vs) H2 Q E
theorem pe_mth {pl : Sem Bool} (ho : PE X o ta) (c : Cls X.K C) (hm : Meth X.K C m f) (F : Keeps X.prog X.w X.K X.mg X.base CX k f fd ps sp) (hr : Rm k X.A) (hb : Binds X.K fd ps []) (hx : Passes CX X E) (ha : PA X (e :: es) t)
    (hst : starEach (e :: es) X.env = (false, eval e X.env) :: starEach es X.env := by rfl) (hpl : (backTo pos (starEach es X.env)).any (·.1) = false := by rfl)
    (ht : eval (.Call (.Attribute o m apos) (e :: es) [] pos) X.env = (do
      let ov ← eval o X.env
      standAt apos.atName
      let (f, first) ← holding [ov] (getMethod ov m pl)
      callWith pos f first (backTo pos (starEach (e :: es) X.env)) (backToKw pos (keywordEach [] X.env))) := by rfl) :
    PE X (.Call (.Attribute o m apos) (e :: es) [] pos) (tMth C m sp E ta t) := by
  constructor
  intro pins s σ H Q I h
  have self := ho.run pins s σ H _ I h
  refine PySem.W.methodCall_KW (pl := pl) (thn self fun u s1 hh => ?_) ht
  obtain ⟨y, H1, J, ry, a, d, fs, rfl, ea, l, q⟩ := hh
  cases ry
  have args := ha.run pos pins s1 σ H1 _ J q
  refine getmeth_ok J ea c hm l (PySem.W.callWith_K (first := [.ref a]) (h₀ := X.base) I.ok.mod.kin hm.kp (thn args fun us s2 hh => ?_) hst hpl)
  obtain ⟨vs, H2, J2, r, q2⟩ := hh
  exact ⟨J2.kIn, go_fn (us := .ref a :: us) (vs := .ref a :: vs) F hr hb hx J2 (.cons rfl r) q2⟩
end
end Wg

/-! Wagon, part 27: d.update(e) of two dicts; methods by qualified names. -/
namespace Wg
open PySem PySem.Spec PyProof.Rows L2
section
variable {X : Cx}
def uUpd : V → List V → Hp → VK → Prop := fun x vs H Q => ∃ a b kvs more, x = .ref a ∧ vs = [.ref b] ∧ a ≠ b ∧ H a = some (.dK kvs) ∧ H b = some (.dK more) ∧ kvs.length + more.length ≤ sizeLine ∧ Ch H a (.dK (mergeK kvs more)) (Q .non)
theorem mt_uUpd : MtR X "dict.update" uUpd := by
  intro pins s σ H x vs v us Q I rx rv h
  obtain ⟨a, b, kvs, more, rfl, rfl, ne, ha, hb, few, q⟩ := h
  cases rx
  obtain ⟨u, rfl, ru⟩ := vals1 rv
  obtain rfl : u = Value.ref b := ru
  obtain ⟨z1, y1, ws, r1, d1⟩ := dk_of I.hok ha
  obtain ⟨z2, y2, ms, r2, d2⟩ := dk_of I.hok hb
  refine call_meetsIn PySem.F.slot_dict_update d1.typeIs PySem.F.entry_dict_update (PySem.F.args_dict_update_2 _ _) (meets_dict_update (mixKind X.prog X.w) a b ne y2) ⟨ws, ms, d1, d2, by rw [← r1.length, ← r2.length]; exact few, fun h2 dd _ same => ?_⟩
  have fits : (mergeK kvs more).length ≤ sizeLine := Nat.le_trans (length_mergeK more kvs) few
  have there : ∃ o, h2.get? a = some o := let ⟨o, _, _, ho, _⟩ := dd; ⟨o, ho⟩
  exact ⟨.non, upd H a (.dK (mergeK kvs more)), d_write (t' := s.toks) I (by rw [ha]; trivial) same there (dk_new fits y1 (r2.merge r1) dd), rfl, q.at⟩
end
structure FnM (K : PySem.W.Frag) (x qual : Str) (st : Stmt) (f : Addr) (fd : FuncData) (ps : List Str) : Prop where
  fn : Fun K x qual st f fd
  b : Binds K fd ps []
end Wg

/-! Wagon, part 28: a comprehension within a comprehension that reads names of it. -/
namespace Wg
open PySem PySem.Spec PyProof.Rows L2
theorem rel_seen {f : NameKind → Str → NameKind} (hf : ∀ k x, k = .cell ∨ k = .free → f k x = .cell ∨ f k x = .free) : ∀ {l : List (Str × NameKind)} {x : Str}, l.lookup x = some .cell ∨ l.lookup x = some .free →
    (l.map fun p => (p.1, f p.2 p.1)).lookup x = some .cell ∨ (l.map fun p => (p.1, f p.2 p.1)).lookup x = some .free
  | [], _, h => by simp at h
  | (n, k) :: l, x, h => by
    rw [List.map_cons, List.lookup_cons]
    rw [List.lookup_cons] at h
    cases e : x == n with
    | true =>
      rw [e] at h
      simp only [Option.some.injEq] at h
      have := hf k n h
      simpa using this
    | false =>
      rw [e] at h
      exact rel_seen hf h
theorem blkOk_in {N : List Str} {sc scope : Scope} {env : Env} {own : List (Str × Nat)} (h : blkC N sc scope own = true) : BlkOk N (relabel sc env) scope own := by
  have b := blkOk_by h
  refine ⟨b.kind, b.uniq, b.ix, fun y hy e => ?_, b.own⟩
  have := rel_seen (f := fun k n => if (k == NameKind.free && env.scope.kind == .function && env.kindOf n == some .cell) then .cell else k) (fun k x h => by
    split
    · exact .inl rfl
    · exact h) (b.free y hy e)
  have eq : (relabel sc env).names = sc.names.map fun p => (p.1, if (p.2 == NameKind.free && env.scope.kind == .function && env.kindOf p.1 == some .cell) then NameKind.cell else p.2) := by
    unfold relabel
    refine List.map_congr_left fun p _ => ?_
    obtain ⟨n, k⟩ := p
    show (if _ then _ else _) = _
    split <;> rfl
  rw [eq]
  exact this
end Wg

/-! Wagon, part 29: displays with [*xs, y]: HandS.Star; in, not in over data: HandS.Deep. -/
namespace Wg
open PySem PySem.Spec PyProof.Rows L2
theorem un65 {k : Nat} {A : Around} (hr : Rm k A) : A.units + 65 < cLine := by
  have := hr.rm.un
  omega
theorem g_FR2 {g : TG} {tb : TS} {D : Ends} {σ : L2.St} {H1 : Hp} {i0 j : Int} (b1 : -(2 ^ 62) ≤ i0) (b2 : i0 < 2 ^ 62) (b3 : -(2 ^ 62) ≤ j) (b4 : j < 2 ^ 62) (h : Loop (j - i0).toNat (fun i => .int (i0 + (i : Nat))) g tb D σ H1) : FR2 g tb D σ [.int i0, .int j] H1 := by
  obtain ⟨Pv, p0, ps, pd⟩ := h
  exact ⟨i0, j, rfl, ⟨b1, b2, b3, b4⟩, for_range (lo := i0) (n := (j - i0).toNat) Pv p0 (fun i σ H hi p => ps i σ H hi p) pd⟩
end Wg

/-! Wagon, part 30: all and any of a generator expression whose element is any expression. -/
namespace Wg
open PySem PySem.Spec PyProof.Rows L2

/-- the context of a generator expression's frame: it began at s; fp: its iterator's objects -/
abbrev gx (X : Cx) (s : Shared) (H : Hp) (ce : Env) (A : Around) (fp : List Addr) : Cx :=
  { X with s_0 := s, H_0 := H, env := ce, outer := X.stack, stack := ce :: X.stack, A := A, ex := fp, fn := fun _ => false, pn := [], xe := fun _ _ => False }
/-- the scope of a generator expression -/
structure GenOk (N : List Str) (sc scope : Scope) (own : List (Str × Nat)) : Prop where
  b : BlkOk N sc scope own
  noc : ∀ y ∈ scope.names, y.2 ≠ .cell
  dot : scope.names.lookup (".0" : Str) = some NameKind.local
  co : scope.isCoroutine = false
abbrev gEnv (X : Cx) (scope : Scope) (C : Addr) (code : Value) : Env := genEnv scope (cloFrom X.env.cells scope.names []) C code builtinsNs X.env
section
variable {X : Cx} {pins : List (Addr × Obj)} {σ : L2.St} {H : Hp} {s : Shared}
theorem gen_free {scope : Scope} {own : List (Str × Nat)} (I : Inv X pins σ H s) (ok : GenOk X.N X.env.scope scope own) : ∀ y ∈ scope.names, y.2 = .free → ∃ c, X.env.cells.lookup y.1 = some c := fun y hy fr =>
  (ok.b.free y hy fr).elim (fun q => I.ok.has _ (.inl q)) fun q => I.ok.has _ (.inr q)
/-- the frame's beginning -/
theorem gen_start {scope : Scope} {own : List (Str × Nat)} {fp : List Addr} {code : Value} {A : Around} {m : Str → Option Value} {z : Shared} (I : Inv X pins σ H s) (ok : GenOk X.N X.env.scope scope own) (hN : X.N.Nodup)
    (hfp : ∀ b ∈ fp, FpOk X pins H b ∧ b < s.heap.objs.size) (hd : A.handled = none) (fr : A.frames = some (gEnv X scope s.heap.objs.size code :: X.stack)) (zo : z.os = s.os) (zb : AllBare z.gens) (zk : ∀ b o, s.heap.get? b = some o → z.heap.get? b = some o)
    (zc : z.heap.Ns s.heap.objs.size m) : Inv (gx X s H (gEnv X scope s.heap.objs.size code) A fp) [] (wipe σ (own.map (·.2))) H z := by
  have free := gen_free I ok
  have inClo : ∀ {y c}, (y, c) ∈ cloFrom X.env.cells scope.names [] → X.env.cells.lookup y = some c ∧ c < s.heap.objs.size := fun {y c} hm => by
    rcases cloFrom_mem hm with q | ⟨q, rfl⟩
    · cases q
    · obtain ⟨c, hc⟩ := free _ q rfl
      rw [hc]
      obtain ⟨w, x⟩ := I.cell _ _ hc
      exact ⟨rfl, x.lt⟩
  have inCl : ∀ {y c}, (cloFrom X.env.cells scope.names []).lookup y = some c → X.env.cells.lookup y = some c ∧ c < s.heap.objs.size := fun e => inClo (PySem.mem_of_lookup e)
  have find : ∀ {y}, scope.names.lookup y = some .free → ∃ c, (cloFrom X.env.cells scope.names []).lookup y = some c ∧ X.env.cells.lookup y = some c := fun {y} q => by
    obtain ⟨c, e⟩ := mem_lookup (cloFrom_has (cells := X.env.cells) (acc := []) (PySem.mem_of_lookup q))
    exact ⟨c, e, (inCl e).1⟩
  have noCell : ∀ {y}, scope.names.lookup y ≠ some .cell := fun q => ok.noc _ (PySem.mem_of_lookup q) rfl
  have OK : (gx X s H (gEnv X scope s.heap.objs.size code) A fp).Ok := by
    refine ⟨I.ok.mod, ok.b.kind, I.ok.glob, rfl, Nat.le_refl _, fun y u c e1 e2 => ?_, fun y hy => ?_, fun y c q => ?_, fun _ => hd, fr, .inr ⟨rfl, rfl⟩, fun b hb => ⟨?_, fun y c e q => ?_⟩, I.bs, Nat.le_trans I.ok.bsz I.sz, fun b o e hb => ?_, fun b hb q => ?_, I.stack, I.stkFree⟩
    · exact I.ok.inj y u c (inCl e1).1 (inCl e2).1
    · rcases hy with q | q
      · exact absurd q noCell
      · obtain ⟨c, e, _⟩ := find q
        exact ⟨c, e⟩
    · cases q
    · exact Nat.ne_of_lt (hfp b hb).2
    · exact (hfp b hb).1.2.2.2.2.1 y c (inCl e).1 q
    · rcases (hfp b hb).1.2.2.2.1 with q | q
      · exact I.ok.noex b o e q
      · exact absurd (Nat.lt_of_lt_of_le (Heap.lt_size e) (Nat.le_trans I.ok.bsz q)) (Nat.lt_irrefl _)
    · rcases List.mem_cons.mp (I.stkSub b q) with q | q
      · exact (hfp b hb).1.2.1 q
      · exact (hfp b hb).1.2.2.1 q
  refine ⟨OK, zo, zb, Un.kept zk, ⟨m, zc, fun i y v e1 e2 vis => ?_⟩, fun y c e => ?_, I.hok.fresh (Nat.le_refl _), fun y c e => I.freeC y c (inCl e).1, fun p hp => absurd (show p ∈ ([] : List (Addr × Obj)) ++ [] from hp) (by simp), I.hok.kept zk, by rw [wipe_length]; exact I.len⟩
  · obtain ⟨e2, hne⟩ := wipe_some e2
    have fr' : scope.names.lookup y = some .free := by
      have no : ∀ k, scope.names.lookup y = some k → (k = .local ∨ k = .cell) → False := fun k q h => by
        rcases ok.b.own _ (PySem.mem_of_lookup q) h with e | e
        · obtain ⟨p, hp, ep⟩ := List.mem_map.mp e
          have e3 := ok.b.ix p hp
          rw [show p.1 = y from ep] at e3
          exact hne (List.mem_map.mpr ⟨p, hp, nodup_ix hN e3 e1⟩)
        · exact e (List.mem_of_getElem? e1)
      rcases vis with q | q | q
      · exact (no _ q (.inl rfl)).elim
      · exact (no _ q (.inr rfl)).elim
      · exact q
    obtain ⟨m', hn, hl⟩ := I.loc
    have visX : Vis X.env.scope y := (ok.b.free _ (PySem.mem_of_lookup fr') rfl).elim (fun q => .inr (.inl q)) fun q => .inr (.inr q)
    obtain ⟨w, r, q⟩ := hl i y v e1 e2 visX
    obtain ⟨c, h1, h2⟩ := find fr'
    refine ⟨w, r, .inr ⟨.inr fr', ?_⟩⟩
    rcases q with ⟨k, _⟩ | ⟨_, c', e', x⟩
    · have k : X.env.scope.names.lookup y = some .local := k
      rcases ok.b.free _ (PySem.mem_of_lookup fr') rfl with k' | k' <;> rw [show X.env.scope.names.lookup y = _ from k'] at k <;> cases k
    · rw [h2] at e'
      cases e'
      exact ⟨c, h1, x.keeps zk⟩
  · obtain ⟨w, x⟩ := I.cell y c (inCl e).1
    exact ⟨w, x.keeps zk⟩
end

theorem over_gen {AS : Around} {elt tg iter : Expr} {ifs : List Expr} {scope : Scope} {pos : Pos} {x y : Value} {env : Env} : AS.over (.compLoop (.GeneratorExp elt [⟨tg, iter, ifs, 0⟩] scope pos) 0 x y env) [] = AS.deeper env := by
  first
    | rfl
    | (obtain ⟨hd, d, fr, gs, u⟩ := AS; simp [Around.over, Around.deeper, marksOver, frameCount, unitsOf, envsOf, guardsOf, pushEnvs, pushGuards, Code.envs, Code.env?, Code.isFrame, Code.guards, Code.weight, Code.frames, Code.isCreation, Code.isGuard, Code.isCaller, Code.cUnits]; cases fr <;> rfl)
theorem over_gen0 {AS : Around} {elt tg iter : Expr} {ifs : List Expr} {scope : Scope} {pos : Pos} {x y : Value} {env : Env} : AS.over (.compStart (.GeneratorExp elt [⟨tg, iter, ifs, 0⟩] scope pos) 0 x y env) [] = AS.deeper env := by
  first
    | rfl
    | (obtain ⟨hd, d, fr, gs, u⟩ := AS; simp [Around.over, Around.deeper, marksOver, frameCount, unitsOf, envsOf, guardsOf, pushEnvs, pushGuards, Code.envs, Code.env?, Code.isFrame, Code.guards, Code.weight, Code.frames, Code.isCreation, Code.isGuard, Code.isCaller, Code.cUnits]; cases fr <;> rfl)
/-- between two turns: what stood stands -/
structure Nap (s s' : Shared) : Prop where
  os : s'.os = s.os
  bare : AllBare s'.gens
  size : s.gens.size ≤ s'.gens.size
  keep : ∀ b o, s.heap.get? b = some o → s'.heap.get? b = some o
theorem inv_nap {X : Cx} {pins : List (Addr × Obj)} {σ : L2.St} {H : Hp} {s s' : Shared} (I : Inv X pins σ H s) (n : Nap s s') : Inv X pins σ H s' :=
  I.call' (ch := []) n.os (Un.kept n.keep) (I.hok.kept n.keep) n.bare fun b hb => absurd hb (by simp)
/-- what a turn begins with -/
structure AtTurn (G : Cx) (a : Addr) (ob : Obj) (g : Nat) (fp : List Addr) (tn : Nat → Heap → Prop) (σ : L2.St) (i : Nat) (H : Hp) (s : Shared) : Prop where
  inv : Inv G [(a, ob)] σ H s
  tn : tn i s.heap
  no : ∀ b ∈ fp, H b = none
  g : g < s.gens.size
/-- what a turn asks -/
def TurnW (J : It) (gg : TG) (tt : TT) (te : TE) (vs : List Nat) (σ : L2.St) (W : Nat → Nat → Hp → Prop) (Q : VK) (stop : Bool) : Prop := ∀ i m H, W i m H →
  (J.stop i H ∧ Q (.bl (!stop)) H) ∨ (J.go i H ∧ ∃ Nx : Hp → Prop, (∀ H', Nx H' → ∃ m', m' < m ∧ W (i + 1) m' H') ∧ ∀ x H', J.yld i H x H' → gg x (wipe σ vs) H' fun σ2 H2 => wipe σ2 vs = wipe σ vs ∧ tt σ2 H2 fun b H3 =>
    if b = true then te σ2 H3 fun y H4 => ∃ k, y = .bl k ∧ if k = stop then Q (.bl stop) H4 else Nx H4 else Nx H3)
/-- what is handed out, what is left at the end -/
def GnY (G : Cx) (a : Addr) (ob : Obj) (g : Nat) (fp : List Addr) (tn : Nat → Heap → Prop) (σ : L2.St) (W : Nat → Nat → Hp → Prop) (Q : VK) (stop : Bool) : Protocol := fun n _ v s kap =>
  (v = .bool stop ∧ ∃ σ' H', Inv G [(a, ob)] σ' H' s ∧ Q (.bl stop) H') ∨ (v = .bool (!stop) ∧ ∃ i m H', m < n ∧ AtTurn G a ob g fp tn σ i H' s ∧ W i m H' ∧ ∀ s', Nap s s' → kap (.send .none) s')
def GnR (G : Cx) (a : Addr) (ob : Obj) (σ : L2.St) (Q : VK) (stop : Bool) : GenEnd := fun _ _ r s => r = .ok .next ∧ ∃ H', Inv G [(a, ob)] σ H' s ∧ Q (.bl (!stop)) H'
theorem not_stop {k stop : Bool} (h : ¬ k = stop) : k = !stop := by
  cases k <;> cases stop <;> first | rfl | exact absurd rfl h
theorem gsz_thn {α : Type} {M : Model} {A : Around} {s : Shared} {t : Sem α} {Q Q' : α → Shared → Prop} {E : Value → Shared → Prop} {n : Nat} (hn : n ≤ s.gens.size) (h : wpAny M A t Q (fun _ _ => False) s) (k : ∀ a s', n ≤ s'.gens.size → Q a s' → Q' a s') : wpAny M A t Q' E s :=
  GenW.wpAny_gsz hn (wpAny_mono h (fun a s' q z => k a s' z q) fun _ _ z => False.elim z)
section
variable {G : Cx} {AS : Around} {elt tg iter : Expr} {ifs : List Expr} {scope : Scope} {pos : Pos} {it a : Addr} {ob : Obj} {g : Nat} {fp : List Addr} {tn : Nat → Heap → Prop} {J : It} {gg : TG} {tt : TT} {te : TE} {vs : List Nat} {σ : L2.St} {W : Nat → Nat → Hp → Prop} {Q : VK} {stop : Bool}
theorem seg_turns (ho : AS.deeper G.env = G.A) (hx : G.xe = fun _ _ => False) (hc : G.calm = true) (hpn : G.pn = []) (T : Turn G.prog G.w G.K tg J fp it tn) (hex : ∀ b ∈ fp, b ∈ G.ex) (hab : ∀ b ∈ fp, a ≠ b) (hco : G.env.scope.isCoroutine = false) (pg : PG G tg gg) (pt : PTs G ifs tt) (pe : PE G elt te)
    (turn : TurnW J gg tt te vs σ W Q stop) : ∀ (m n i : Nat) (H : Hp) (s₀ s : Shared), m < n → AtTurn G a ob g fp tn (wipe σ vs) i H s → W i m H →
      Seg (model G.prog G.w) AS (GnR G a ob (wipe σ vs) Q stop) (GnY G a ob g fp tn (wipe σ vs) W Q stop) n s₀ (.compLoop (.GeneratorExp elt [⟨tg, iter, ifs, 0⟩] scope pos) 0 (.ref it) .none G.env)
        ((model G.prog G.w).den (.compLoop (.GeneratorExp elt [⟨tg, iter, ifs, 0⟩] scope pos) 0 (.ref it) .none G.env)) [] s := by
  intro m
  induction m using Nat.strongRecOn with
  | ind m ih =>
    intro n i H s₀ s hmn at0 w
    have fpk : ∀ {σ' : L2.St} {H' : Hp} {s' : Shared}, Inv G [(a, ob)] σ' H' s' → (∀ b ∈ fp, H' b = none) → ∀ b ∈ fp, FpOk G [(a, ob)] H' b := fun {σ' H' s'} I' no b hb =>
      ⟨no b hb, (I'.ok.exf b (hex b hb)).1, I'.ok.exfs b (hex b hb), .inl (hex b hb), fun x c e => (I'.ok.exf b (hex b hb)).2 x c e, fun p hp => by
        rw [hpn] at hp
        rw [List.mem_singleton.mp (show p ∈ [(a, ob)] from hp)]
        exact hab b hb⟩
    show Seg _ AS _ _ _ s₀ _ ((compTurn (.GeneratorExp elt [⟨tg, iter, ifs, 0⟩] scope pos) 0 (.ref it) .none G.env).onRaise (leaving G.env)) [] s
    rw [compTurn_gen, Sem.onRaise_eq_wrap]
    refine seg_bind_wrap (wpAny_standAt ?_)
    rcases turn i m H w with ⟨st, q⟩ | ⟨go, Nx, hNx, step⟩
    · refine seg_bind_wrap ?_
      rw [over_gen, ho]
      have td := T.done G rfl rfl rfl hc i [(a, ob)] s (wipe σ vs) H (fun _ _ => False) at0.inv (fpk at0.inv at0.no) at0.tn st
      refine thnF td fun r s1 ⟨hr, I1⟩ => ?_
      subst hr
      exact seg_end (.ok .next) ⟨rfl, H, I1, q⟩
    · refine seg_bind_wrap ?_
      rw [over_gen, ho]
      have ti := T.item G rfl rfl rfl hc i [(a, ob)] s (wipe σ vs) H (fun _ _ => False) at0.inv (fpk at0.inv at0.no) at0.tn go
      refine gsz_thn (Nat.succ_le_of_lt at0.g) ti fun r s1 g1 ⟨u, hr, h1⟩ => ?_
      subst hr
      refine seg_bind_wrap ?_
      rw [over_gen, ho]
      refine gsz_thn g1 h1 fun _ s2 g2 ⟨x, H2, I2, r2, y2, t2, n2⟩ => ?_
      have I2' := I2.pinned (fpk I2 n2) (T.obj _ _ t2)
      refine seg_bind_wrap ?_
      rw [over_gen, ho]
      have pgr := pg.run _ s2 _ H2 x u _ I2' r2 (step x H2 y2)
      rw [hx] at pgr
      refine gsz_thn g2 pgr fun _ s3 g3 ⟨σ3, H3, I3, w3, q3⟩ => ?_
      refine seg_bind_wrap ?_
      rw [over_gen, ho]
      have ptr := pt.run _ s3 σ3 H3 _ I3 q3
      rw [hx] at ptr
      refine gsz_thn g3 ptr fun b s4 g4 ⟨H4, I4, q4⟩ => ?_
      -- the end of a turn that goes on
      have fin : ∀ {s' : Shared} {H' : Hp}, Inv G ([(a, ob)] ++ pinsAt fp s2.heap) σ3 H' s' → g + 1 ≤ s'.gens.size → AtTurn G a ob g fp tn (wipe σ vs) (i + 1) H' s' := fun {s' H'} I' gs => by
        have pin' : ∀ b ∈ fp, ∀ o, s2.heap.get? b = some o → s'.heap.get? b = some o ∧ H' b = none := fun b hb o e =>
          let z := I'.pin (b, o) (List.mem_append_right _ (List.mem_append_right _ (mem_pinsAt hb e)))
          ⟨z.1, z.2.1⟩
        have hl : (wipe σ vs).length = σ3.length := by rw [← w3, wipe_length]
        refine ⟨(I'.unpinned (pins := [(a, ob)])).weak hl (fun j v e => ?_), T.keep _ _ _ t2 fun b hb o e => (pin' b hb o e).1, fun b hb => ?_, gs⟩
        · rw [← w3] at e
          exact (wipe_some e).1
        · obtain ⟨o, e, _⟩ := T.obj _ _ t2 b hb
          exact (pin' b hb o e).2
      cases b with
      | false =>
        simp only [Bool.false_eq_true, if_false] at q4 ⊢
        obtain ⟨m', hm, w'⟩ := hNx _ q4
        exact seg_again rfl (ih m' hm n (i + 1) H4 s₀ s4 (by omega) (fin I4 g4) w')
      | true =>
        simp only [if_true] at q4 ⊢
        obtain ⟨n', rfl⟩ : ∃ n', n = n' + 1 := ⟨n - 1, by omega⟩
        have hy : ∀ v, yieldOut G.env v = yieldValue v := fun v => by simp only [yieldOut, hco, Bool.false_eq_true, if_false]
        simp only [hy]
        rw [Sem.bind_eq_wrap', Sem.bind_eq_wrap', Sem.wrap_wrap, Sem.wrap_wrap]
        refine seg_wrap ?_
        rw [over_gen, ho]
        have per := pe.run _ s4 σ3 H4 _ I4 q4
        rw [hx] at per
        refine gsz_thn g4 per fun v s5 g5 ⟨yv, H5, I5, r5, k, ek, q5⟩ => ?_
        subst ek
        obtain rfl : v = .bool k := r5
        refine seg_at (seg_yield rfl rfl rfl ?_)
        by_cases hk : k = stop
        · rw [if_pos hk] at q5
          exact .inl ⟨by rw [hk], σ3, H5, I5.unpinned (pins := [(a, ob)]), q5⟩
        · rw [if_neg hk] at q5
          obtain ⟨m', hm, w'⟩ := hNx _ q5
          refine .inr ⟨congrArg Value.bool (not_stop hk), i + 1, m', H5, by omega, fin I5 g5, w', fun s'' nap => ?_⟩
          have f5 := fin I5 g5
          exact seg_again rfl (ih m' hm n' (i + 1) H5 s'' s'' (by omega) ⟨inv_nap f5.inv nap, T.keep _ _ _ f5.tn fun b _ o e => nap.keep b o e, f5.no, Nat.lt_of_lt_of_le f5.g nap.size⟩ w')
end

section
variable {G : Cx} {AS : Around} {elt tg iter : Expr} {ifs : List Expr} {scope : Scope} {pos : Pos} {it a : Addr} {ob : Obj} {g : Nat} {fp : List Addr} {tn : Nat → Heap → Prop} {J : It} {gg : TG} {tt : TT} {te : TE} {vs : List Nat} {σ : L2.St} {W : Nat → Nat → Hp → Prop} {Q : VK} {stop : Bool}
theorem seg_begin (ho : AS.deeper G.env = G.A) (hx : G.xe = fun _ _ => False) (hc : G.calm = true) (hpn : G.pn = []) (T : Turn G.prog G.w G.K tg J fp it tn) (hex : ∀ b ∈ fp, b ∈ G.ex) (hab : ∀ b ∈ fp, a ≠ b) (hco : G.env.scope.isCoroutine = false) (pg : PG G tg gg) (pt : PTs G ifs tt) (pe : PE G elt te)
    (turn : TurnW J gg tt te vs σ W Q stop) (m n : Nat) (H : Hp) (s₀ s : Shared) (hmn : m < n) (at0 : AtTurn G a ob g fp tn (wipe σ vs) 0 H s) (w : W 0 m H) :
      Seg (model G.prog G.w) AS (GnR G a ob (wipe σ vs) Q stop) (GnY G a ob g fp tn (wipe σ vs) W Q stop) n s₀ (.compStart (.GeneratorExp elt [⟨tg, iter, ifs, 0⟩] scope pos) 0 (.ref it) .none G.env)
        ((model G.prog G.w).den (.compStart (.GeneratorExp elt [⟨tg, iter, ifs, 0⟩] scope pos) 0 (.ref it) .none G.env)) [] s := by
  have loop := seg_turns (iter := iter) (scope := scope) (pos := pos) ho hx hc hpn T hex hab hco pg pt pe turn m n 0 H s₀ s hmn at0 w
  show Seg _ AS _ _ _ s₀ _ ((compStart (.GeneratorExp elt [⟨tg, iter, ifs, 0⟩] scope pos) 0 (.ref it) .none G.env).onRaise (leaving G.env)) [] s
  unfold compStart
  rw [Sem.onRaise_eq_wrap]
  show Seg _ AS _ _ _ s₀ _ ((ask >>= _).wrap _ _ _ _) [] s
  refine seg_bind_wrap (wpAny_askSetting ?_)
  split
  · exact seg_again rfl loop
  · first
      | exact seg_bind_wrap (wpAny_rule (seg_bind_wrap (wpAny_standAt (seg_bind_wrap (T.self _ 0 s _ _ at0.tn (seg_again rfl loop))))))
      | (refine seg_bind_wrap (wpAny_rule ?_); show Seg _ AS _ _ _ s₀ _ ((standAt iter.pos >>= _).wrap _ _ _ _) [] s; exact seg_bind_wrap (wpAny_standAt (seg_bind_wrap (T.self _ 0 s _ _ at0.tn (seg_again rfl loop)))))
/-- the generator at a, to be asked at most n times more -/
structure Rdy (M : Model) (AS : Around) (R : GenEnd) (Y : Protocol) (a : Addr) (ob : Obj) (g n : Nat) (s : Shared) : Prop where
  at' : s.heap.get? a = some ob
  lim : s.heap.NoLimit
  st : ∃ gs, s.gens[g]? = some gs ∧ ∀ s', Nap s s' → gs.Goes M AS R Y n (.send .none) s'
theorem nap_trans {s s1 s2 : Shared} (x : Nap s s1) (y : Nap s1 s2) : Nap s s2 := ⟨y.os.trans x.os, y.bare, Nat.le_trans x.size y.size, fun b o e => y.keep b o (x.keep b o e)⟩
theorem nap_gen {s : Shared} {g : Nat} {gs : GenState} (hb : AllBare s.gens) (h : gs.bare = true) : Nap s (s.setGen g gs) := by
  refine ⟨rfl, ?_, by simp [Shared.setGen], fun b o e => e⟩
  intro y hy
  obtain ⟨i, hi, rfl⟩ := Array.mem_iff_getElem.mp hy
  have hi' : i < s.gens.size := by simpa [Shared.setGen] using hi
  by_cases e : g = i
  · subst e
    have : (s.setGen g gs).gens[g] = gs := by simp [Shared.setGen]
    rw [this]
    exact h
  · have q : (s.setGen g gs).gens[i]? = some s.gens[i] := by
      show (s.gens.setIfInBounds g gs)[i]? = _
      rw [Array.getElem?_setIfInBounds_ne e, Array.getElem?_eq_getElem hi']
    rw [Array.getElem?_eq_getElem hi] at q
    rw [Option.some.inj q]
    exact hb _ (Array.getElem_mem hi')
theorem set_self {s : Shared} {g : Nat} {gs : GenState} (h : g < s.gens.size) : (s.setGen g gs).gens[g]? = some gs := by
  simp [Shared.setGen, h]
/-- all( .. ): the walk over the generator -/
theorem all_turns {A : Around} {Rr : Result → Shared → Prop} (hh : A.handled = none) (hroom : A.depth < recursionLimit) (hg : ∀ h : Heap, h.get? a = some ob → h.IsGen a g)
    (fin : ∀ b s' σ' H', Inv G [(a, ob)] σ' H' s' → Q (.bl b) H' → Rr (.ok (.ret (.bool b))) s') : ∀ (n : Nat) (s : Shared), AllBare s.gens →
      Rdy (model G.prog G.w) A.in1.in1 (GnR G a ob (wipe σ vs) Q false) (GnY G a ob g fp tn (wipe σ vs) W Q false) a ob g n s → codeAny (model G.prog G.w) A (.builtin "all.loop" ⟨[.ref a], []⟩) Rr s := by
  intro n
  induction n with
  | zero =>
    intro s hb rdy
    obtain ⟨gs, hgs, hgo⟩ := rdy.st
    refine codeAny_builtin F.entry_all_loop ?_
    rw [Around.under_plainId F.plain_all_loop _]
    show wpAny _ A.in1 (pyNext (.ref a) >>= _) _ _ s
    refine wpAny_bind (wpAny_pyNext_genexpQ (A := A.in1) (P := fun _ _ s₁ => ∃ H', Inv G [(a, ob)] (wipe σ vs) H' s₁ ∧ Q (.bl (!false)) H') (Y := GnY G a ob g fp tn (wipe σ vs) W Q false) (n := 0) hh rdy.lim hroom (hg _ rdy.at') hgs (hgo _ (nap_gen hb rfl)) (fun v s₁ gs' hb' hv => ?_) fun s₁ hp h' hk => ?_)
    · rcases hv with ⟨rfl, σ', H', I', q'⟩ | ⟨_, i, m, H', hm, _⟩
      · refine wpAny_bind (wpAny_holding (wpAny_truthy_bool ?_))
        refine wpAny_bind (wpAny_letGo ?_)
        simp only [Bool.false_eq_true, if_false]
        refine wpAny_bind (wpAny_rule (wpAny_pure ?_))
        exact fin false _ σ' H' (inv_nap I' (nap_gen I'.bare hb')) q'
      · exact absurd hm (Nat.not_lt_zero _)
    · obtain ⟨H', I', q'⟩ := hp
      refine wpAny_bind (wpAny_rule (wpAny_pure ?_))
      exact fin true _ _ H' (inv_nap I' (nap_trans (nap_gen (gs := .finished) I'.bare rfl) ⟨rfl, (nap_gen (gs := .finished) I'.bare rfl).bare, Nat.le_refl _, hk⟩)) q'
  | succ n ih =>
    intro s hb rdy
    obtain ⟨gs, hgs, hgo⟩ := rdy.st
    refine codeAny_builtin F.entry_all_loop ?_
    rw [Around.under_plainId F.plain_all_loop _]
    show wpAny _ A.in1 (pyNext (.ref a) >>= _) _ _ s
    refine wpAny_bind (wpAny_pyNext_genexpQ (A := A.in1) (P := fun _ _ s₁ => ∃ H', Inv G [(a, ob)] (wipe σ vs) H' s₁ ∧ Q (.bl (!false)) H') (Y := GnY G a ob g fp tn (wipe σ vs) W Q false) (n := n + 1) hh rdy.lim hroom (hg _ rdy.at') hgs (hgo _ (nap_gen hb rfl)) (fun v s₁ gs' hb' hv => ?_) fun s₁ hp h' hk => ?_)
    · rcases hv with ⟨rfl, σ', H', I', q'⟩ | ⟨rfl, i, m, H', hm, at1, w1, kap⟩
      · refine wpAny_bind (wpAny_holding (wpAny_truthy_bool ?_))
        refine wpAny_bind (wpAny_letGo ?_)
        simp only [Bool.false_eq_true, if_false]
        refine wpAny_bind (wpAny_rule (wpAny_pure ?_))
        exact fin false _ σ' H' (inv_nap I' (nap_gen I'.bare hb')) q'
      · refine wpAny_bind (wpAny_holding (wpAny_truthy_bool ?_))
        refine wpAny_bind (wpAny_letGo ?_)
        simp only [Bool.not_false, if_true]
        have n1 := nap_gen (g := g) at1.inv.bare hb'
        have J1 := inv_nap at1.inv n1
        refine wpAny_pure ⟨plainId_quiet F.plain_all_loop _, ih _ n1.bare ⟨(J1.pin (a, ob) (List.mem_append_right _ List.mem_cons_self)).1, J1.nolimit, gs', set_self at1.g, fun s' nap => kap s' (nap_trans n1 nap)⟩⟩
    · obtain ⟨H', I', q'⟩ := hp
      refine wpAny_bind (wpAny_rule (wpAny_pure ?_))
      exact fin true _ _ H' (inv_nap I' (nap_trans (nap_gen (gs := .finished) I'.bare rfl) ⟨rfl, (nap_gen (gs := .finished) I'.bare rfl).bare, Nat.le_refl _, hk⟩)) q'
/-- any( .. ): the walk over the generator -/
theorem any_turns {A : Around} {Rr : Result → Shared → Prop} (hh : A.handled = none) (hroom : A.depth < recursionLimit) (hg : ∀ h : Heap, h.get? a = some ob → h.IsGen a g)
    (fin : ∀ b s' σ' H', Inv G [(a, ob)] σ' H' s' → Q (.bl b) H' → Rr (.ok (.ret (.bool b))) s') : ∀ (n : Nat) (s : Shared), AllBare s.gens →
      Rdy (model G.prog G.w) A.in1.in1 (GnR G a ob (wipe σ vs) Q true) (GnY G a ob g fp tn (wipe σ vs) W Q true) a ob g n s → codeAny (model G.prog G.w) A (.builtin "any.loop" ⟨[.ref a], []⟩) Rr s := by
  intro n
  induction n with
  | zero =>
    intro s hb rdy
    obtain ⟨gs, hgs, hgo⟩ := rdy.st
    refine codeAny_builtin F.entry_any_loop ?_
    rw [Around.under_plainId F.plain_any_loop _]
    show wpAny _ A.in1 (pyNext (.ref a) >>= _) _ _ s
    refine wpAny_bind (wpAny_pyNext_genexpQ (A := A.in1) (P := fun _ _ s₁ => ∃ H', Inv G [(a, ob)] (wipe σ vs) H' s₁ ∧ Q (.bl (!true)) H') (Y := GnY G a ob g fp tn (wipe σ vs) W Q true) (n := 0) hh rdy.lim hroom (hg _ rdy.at') hgs (hgo _ (nap_gen hb rfl)) (fun v s₁ gs' hb' hv => ?_) fun s₁ hp h' hk => ?_)
    · rcases hv with ⟨rfl, σ', H', I', q'⟩ | ⟨_, i, m, H', hm, _⟩
      · refine wpAny_bind (wpAny_holding (wpAny_truthy_bool ?_))
        refine wpAny_bind (wpAny_letGo ?_)
        simp only [if_true]
        refine wpAny_bind (wpAny_rule (wpAny_pure ?_))
        exact fin true _ σ' H' (inv_nap I' (nap_gen I'.bare hb')) q'
      · exact absurd hm (Nat.not_lt_zero _)
    · obtain ⟨H', I', q'⟩ := hp
      refine wpAny_bind (wpAny_rule (wpAny_pure ?_))
      exact fin false _ _ H' (inv_nap I' (nap_trans (nap_gen (gs := .finished) I'.bare rfl) ⟨rfl, (nap_gen (gs := .finished) I'.bare rfl).bare, Nat.le_refl _, hk⟩)) q'
  | succ n ih =>
    intro s hb rdy
    obtain ⟨gs, hgs, hgo⟩ := rdy.st
    refine codeAny_builtin F.entry_any_loop ?_
    rw [Around.under_plainId F.plain_any_loop _]
    show wpAny _ A.in1 (pyNext (.ref a) >>= _) _ _ s
    refine wpAny_bind (wpAny_pyNext_genexpQ (A := A.in1) (P := fun _ _ s₁ => ∃ H', Inv G [(a, ob)] (wipe σ vs) H' s₁ ∧ Q (.bl (!true)) H') (Y := GnY G a ob g fp tn (wipe σ vs) W Q true) (n := n + 1) hh rdy.lim hroom (hg _ rdy.at') hgs (hgo _ (nap_gen hb rfl)) (fun v s₁ gs' hb' hv => ?_) fun s₁ hp h' hk => ?_)
    · rcases hv with ⟨rfl, σ', H', I', q'⟩ | ⟨rfl, i, m, H', hm, at1, w1, kap⟩
      · refine wpAny_bind (wpAny_holding (wpAny_truthy_bool ?_))
        refine wpAny_bind (wpAny_letGo ?_)
        simp only [if_true]
        refine wpAny_bind (wpAny_rule (wpAny_pure ?_))
        exact fin true _ σ' H' (inv_nap I' (nap_gen I'.bare hb')) q'
      · refine wpAny_bind (wpAny_holding (wpAny_truthy_bool ?_))
        refine wpAny_bind (wpAny_letGo ?_)
        simp only [Bool.not_true, Bool.false_eq_true, if_false]
        have n1 := nap_gen (g := g) at1.inv.bare hb'
        have J1 := inv_nap at1.inv n1
        refine wpAny_pure ⟨plainId_quiet F.plain_any_loop _, ih _ n1.bare ⟨(J1.pin (a, ob) (List.mem_append_right _ List.mem_cons_self)).1, J1.nolimit, gs', set_self at1.g, fun s' nap => kap s' (nap_trans n1 nap)⟩⟩
    · obtain ⟨H', I', q'⟩ := hp
      refine wpAny_bind (wpAny_rule (wpAny_pure ?_))
      exact fin false _ _ H' (inv_nap I' (nap_trans (nap_gen (gs := .finished) I'.bare rfl) ⟨rfl, (nap_gen (gs := .finished) I'.bare rfl).bare, Nat.le_refl _, hk⟩)) q'
end

/-- all(elt for tg in iter if ..) (stop: false), any(..) (stop: true) -/
def tGen (P : Addr) (wi : TI) (gg : TG) (tt : TT) (te : TE) (vs : List Nat) (stop : Bool) : TE := fun σ H Q => wi σ H fun J H1 => GxR.TabG H1 P ∧ ∀ H2, GxR.Tabbed P H1 H2 → ∃ W : Nat → Nat → Hp → Prop, (∃ m, W 0 m H2) ∧ TurnW J gg tt te vs σ W Q stop
theorem rm_gen {k : Nat} {A : Around} {env : Env} (hr : Rm (k + 1) A) : Rm k (A.in1.in1.deeper env) :=
  ⟨⟨hr.rm.hd, by have := hr.rm.dp; show A.depth + 1 + 3 * k + 5 < _; omega, by have := hr.rm.un; show A.units + 1 + 1 + 3 + 16 * k + 200 < _; omega⟩, hr.gd⟩
theorem frames_gen {A : Around} {env : Env} {l : List Env} (h : A.frames = some l) : (A.in1.in1.deeper env).frames = some (env :: l) := by
  show Option.map _ A.frames = _
  rw [h]
  rfl
section
variable {X : Cx} {pins : List (Addr × Obj)} {σ : L2.St} {H : Hp} {s : Shared}
theorem gen_eval {c P : Addr} {elt tg iter : Expr} {ifs : List Expr} {gpos : Pos} {scope : Scope} {own : List (Str × Nat)} {wi : TI} {gg : TG} {tt : TT} {te : TE} {k : Nat} {stop : Bool} {Q : VK} {Q' : Value → Shared → Prop}
    (hr : Rm (k + 1) X.A) (TB : GxR.TabB X.base X.mg c P) (hcode : X.env.code = .ref c) (hc : X.calm = true) (hN : X.N.Nodup) (ok : GenOk X.N X.env.scope scope own) (hi : PI X tg iter wi)
    (hg : ∀ (s : Shared) (H : Hp) (C : Addr) (cd : Value) (A : Around) (fp : List Addr), Rm k A → PG (gx X s H (gEnv X scope C cd) A fp) tg gg)
    (ht : ∀ (s : Shared) (H : Hp) (C : Addr) (cd : Value) (A : Around) (fp : List Addr), Rm k A → PTs (gx X s H (gEnv X scope C cd) A fp) ifs tt)
    (he : ∀ (s : Shared) (H : Hp) (C : Addr) (cd : Value) (A : Around) (fp : List Addr), Rm k A → PE (gx X s H (gEnv X scope C cd) A fp) elt te)
    (hs : ∀ x, genFold iter X.env x = pure x) (I : Inv X pins σ H s) (h : tGen P wi gg tt te (own.map (·.2)) stop σ H Q)
    (hQ : ∀ (G : Cx) (a : Addr) (ob : Obj) (g n : Nat) (fp : List Addr) (tn : Nat → Heap → Prop) (W : Nat → Nat → Hp → Prop) (s5 : Shared), (∀ h : Heap, h.get? a = some ob → h.IsGen a g) → AllBare s5.gens →
      Rdy (model X.prog X.w) X.A.in1.in1 (GnR G a ob (wipe σ (own.map (·.2))) Q stop) (GnY G a ob g fp tn (wipe σ (own.map (·.2))) W Q stop) a ob g n s5 → G.prog = X.prog → G.w = X.w →
      (∀ σ' H' s', Inv G [(a, ob)] σ' H' s' → Inv X pins σ H' s') → Q' (.ref a) s5) :
    wpAny (model X.prog X.w) X.A (eval (.GeneratorExp elt [⟨tg, iter, ifs, 0⟩] scope gpos) X.env) Q' X.xe s := by
  refine wpAny_GeneratorExp_make ok.co (closure_ok (gen_free I ok)) ok.noc ok.dot ok.b.kind (by have := hr.rm.dp; omega) ?_ hs
  refine thn (hi.run pins s σ H _ I h) fun xv s1 h1 => thn h1 fun itv s2 h2 => ?_
  obtain ⟨it, fp, tn, J, H2, e, I2, T, st2, f2, ⟨ps, hP, tr⟩, q⟩ := h2
  subst e
  have hPs : s2.heap.get? P = some { cls := .none, data := .fields ps } := I2.hok P _ hP
  have cd2 : PySem.W.CodeHd s2.heap c P := TB.code.keeps fun b u e => I2.bk b u e
  have cont : ∀ (code : Value) (h3 : Heap) (tk : Nat) (more : Array Value), Heap.ExtBut P s2.heap h3 → s2.heap.objs.size ≤ h3.objs.size → h3.get? P = some { cls := .none, data := .fields (ps ++ more) } → TriplesOk (ps ++ more).toList →
      wpAny (model X.prog X.w) X.A (builtinsFor X.env.globals X.env.builtins) (fun bi s₄ => ∀ h', h'.Ns s₄.heap.objs.size (fun y => if y = ".0" then some (.ref it) else none) → Heap.SameBut s₄.heap.objs.size (s₄.heap.push { cls := .type "frame", data := .dict #[] }) h' →
          Q' (.ref h'.objs.size) { s₄ with
            gens := s₄.gens.push (.fresh (.compStart (.GeneratorExp elt [⟨tg, iter, ifs, 0⟩] scope gpos) 0 (.ref it) .none (genEnv scope (cloFrom X.env.cells scope.names []) s₄.heap.objs.size code bi X.env))),
            toks := s₄.toks + 1 + 1 + 1,
            heap := h'.push { cls := .type "generator", data := .fields #[.int s₄.gens.size 0, .str "<genexpr>" (s₄.toks + 1), .str (X.env.qual ++ "<genexpr>") (s₄.toks + 1 + 1)] } }) X.xe { s2 with heap := h3, toks := tk } := by
    intro code h3 tk more hx hsz hP3 tr3
    obtain ⟨bm, ob0, e1, e2, e3, e4, e5, e6, e7, e8⟩ := TB.bm
    have kp : ∀ b u, b ≠ P → s2.heap.get? b = some u → h3.get? b = some u := fun b u hb e => hx b u hb e
    refine wpAny_builtinsFor (m := X.mg) (by rw [I2.ok.glob]; exact (I2.mod.glob.keeps I2.bk).extBut hx TB.gP) e1 e2 (kp _ _ e4 (I2.bk _ _ e5)) e6 e7 e8 ?_
    intro h' hn' hs'
    have I3 : Inv X pins σ (upd H2 P (.tbl (ps ++ more))) { s2 with heap := h3, gens := s2.gens, drawn := s2.drawn, toks := tk } := GxR.inv_tab I2 hP kp hP3 I2.bare
    have hH3 : GxR.Tabbed P H2 (upd H2 P (.tbl (ps ++ more))) := ⟨⟨ps ++ more, upd_same, tr3⟩, fun b hb => upd_ne hb⟩
    obtain ⟨W, ⟨m0, w0⟩, turn⟩ := q _ hH3
    generalize upd H2 P (.tbl (ps ++ more)) = H3 at I3 hH3 w0
    have nP : ∀ b, H2 b = none → b ≠ P := fun b e z => by rw [z, hP] at e; cases e
    have f3 : ∀ b ∈ fp, FpOk X pins H3 b ∧ b < h3.objs.size := fun b hb => by
      obtain ⟨o, eo, _⟩ := T.obj _ _ st2 b hb
      refine ⟨⟨?_, (f2 b hb).2⟩, Nat.lt_of_lt_of_le (Heap.lt_size eo) hsz⟩
      rw [hH3.2 b (nP b (f2 b hb).1)]
      exact (f2 b hb).1
    have st3 : tn 0 h3 := T.keep _ _ _ st2 fun b hb o e => kp b o (nP b (f2 b hb).1) e
    show Q' (.ref h'.objs.size) _
    generalize hob : ({ cls := .type "generator", data := .fields #[.int s2.gens.size 0, .str "<genexpr>" (tk + 1), .str (X.env.qual ++ "<genexpr>") (tk + 1 + 1)] } : Obj) = ob
    have hsz' : h'.objs.size = h3.objs.size + 1 := by rw [hs'.1, Heap.size_push]
    have keep' : ∀ b o, h3.get? b = some o → h'.get? b = some o := fun b o e => hs'.extBut b o (Nat.ne_of_lt (Heap.lt_size e)) (Heap.get?_push_of_some _ e)
    have keep5 : ∀ b o, h3.get? b = some o → (h'.push ob).get? b = some o := fun b o e => Heap.get?_push_of_some _ (keep' b o e)
    generalize hcode5 : Code.compStart (.GeneratorExp elt [⟨tg, iter, ifs, 0⟩] scope gpos) 0 (.ref it) .none (gEnv X scope h3.objs.size code) = cs
    generalize hz : ({ s2 with heap := h'.push ob, gens := s2.gens.push (.fresh cs), toks := tk + 1 + 1 + 1 } : Shared) = z
    have zh : z.heap = h'.push ob := by rw [← hz]
    have zg : z.gens = s2.gens.push (.fresh cs) := by rw [← hz]
    have zo : z.os = s2.os := by rw [← hz]
    have zb : AllBare z.gens := by rw [zg]; exact I2.bare.push rfl
    have I4 := gen_start (code := code) (A := X.A.in1.in1.deeper (gEnv X scope h3.objs.size code)) (z := z) I3 ok hN f3 hr.rm.hd (frames_gen I3.ok.frames) zo zb (fun b o e => by rw [zh]; exact keep5 b o e) (by rw [zh]; exact hn'.push _)
    have ha : z.heap.get? h'.objs.size = some ob := by rw [zh]; exact Heap.get?_push_size _ (by rw [← hob]; rfl)
    have hna : H3 h'.objs.size = none := I3.hok.fresh (by show h3.objs.size ≤ _; omega)
    have I5 : Inv (gx X { s2 with heap := h3, gens := s2.gens, drawn := s2.drawn, toks := tk } H3 (gEnv X scope h3.objs.size code) (X.A.in1.in1.deeper (gEnv X scope h3.objs.size code)) fp) [(h'.objs.size, ob)] (wipe σ (own.map (·.2))) H3 z := I4.pins_of fun p hp => by
      rw [List.mem_singleton.mp hp]
      refine ⟨ha, hna, ?_, fun hf => ?_, fun v e => ?_⟩
      · show h'.objs.size ≠ h3.objs.size
        omega
      · rcases List.mem_cons.mp (I3.stkSub _ hf) with e | e
        · have := I3.lt
          have e : h'.objs.size = X.env.locals := e
          have this : X.env.locals < h3.objs.size := this
          have : h3.objs.size < h'.objs.size := by omega
          rw [e] at this
          exact absurd (Nat.lt_trans this ‹X.env.locals < h3.objs.size›) (Nat.lt_irrefl _)
        · exact I3.nofs (show h3.objs.size ≤ h'.objs.size by omega) e
      · rw [← hob] at e
        cases e
    have hgen : ∀ h : Heap, h.get? h'.objs.size = some ob → h.IsGen h'.objs.size s2.gens.size := fun h e => by
      subst hob
      exact ⟨_, _, _, e, rfl, rfl, rfl⟩
    have nsz : s2.gens.size < z.gens.size := by rw [zg, Array.size_push]; exact Nat.lt_succ_self _
    have back : ∀ (σ' : L2.St) (H' : Hp) (s' : Shared), Inv (gx X { s2 with heap := h3, gens := s2.gens, drawn := s2.drawn, toks := tk } H3 (gEnv X scope h3.objs.size code) (X.A.in1.in1.deeper (gEnv X scope h3.objs.size code)) fp) [(h'.objs.size, ob)] σ' H' s' → Inv X pins σ H' s' := fun σ' H' s' I' =>
      I3.call' (ch := fp) I'.os I'.base I'.hok I'.bare fun b hb => ⟨(f3 b hb).1.2.2.2.1, (f3 b hb).1.2.1, (f3 b hb).1.2.2.2.2.1, (f3 b hb).1.2.2.2.2.2⟩
    have pg := hg { s2 with heap := h3, gens := s2.gens, drawn := s2.drawn, toks := tk } H3 h3.objs.size code _ fp (rm_gen (env := gEnv X scope h3.objs.size code) hr)
    have pt := ht { s2 with heap := h3, gens := s2.gens, drawn := s2.drawn, toks := tk } H3 h3.objs.size code _ fp (rm_gen (env := gEnv X scope h3.objs.size code) hr)
    have pe := he { s2 with heap := h3, gens := s2.gens, drawn := s2.drawn, toks := tk } H3 h3.objs.size code _ fp (rm_gen (env := gEnv X scope h3.objs.size code) hr)
    have start : ∀ s', Nap z s' → (GenState.fresh cs).Goes (model X.prog X.w) X.A.in1.in1 (GnR (gx X { s2 with heap := h3, gens := s2.gens, drawn := s2.drawn, toks := tk } H3 (gEnv X scope h3.objs.size code) (X.A.in1.in1.deeper (gEnv X scope h3.objs.size code)) fp) h'.objs.size ob (wipe σ (own.map (·.2))) Q stop)
        (GnY (gx X { s2 with heap := h3, gens := s2.gens, drawn := s2.drawn, toks := tk } H3 (gEnv X scope h3.objs.size code) (X.A.in1.in1.deeper (gEnv X scope h3.objs.size code)) fp) h'.objs.size ob s2.gens.size fp tn (wipe σ (own.map (·.2))) W Q stop) (m0 + 1) (.send .none) s' := fun s' nap => by
      refine ⟨rfl, ?_⟩
      rw [← hcode5]
      exact seg_begin (G := gx X { s2 with heap := h3, gens := s2.gens, drawn := s2.drawn, toks := tk } H3 (gEnv X scope h3.objs.size code) (X.A.in1.in1.deeper (gEnv X scope h3.objs.size code)) fp) (AS := X.A.in1.in1) (iter := iter) (scope := scope) (pos := gpos) rfl rfl hc rfl T (fun b hb => hb) (fun b hb z => absurd (f3 b hb).2 (by rw [← z]; exact Nat.not_lt.mpr (by rw [hsz']; exact Nat.le_succ _))) ok.co pg pt pe turn m0 (m0 + 1) H3 s' s' (Nat.lt_succ_self _)
        ⟨inv_nap I5 nap, T.keep _ _ _ st3 fun b _ o e => nap.keep b o (by rw [zh]; exact keep5 b o e), fun b hb => (f3 b hb).1.1, Nat.lt_of_lt_of_le nsz nap.size⟩ w0
    exact hQ _ h'.objs.size ob s2.gens.size (m0 + 1) fp tn W z hgen zb ⟨ha, I5.nolimit, _, by rw [zg]; exact Array.getElem?_push_size .., start⟩ rfl rfl back
  refine ⟨I2.nolimit, ?_⟩
  cases hf : codeAmong gpos ps.toList with
  | none =>
    refine wpAny_genexprCodeX hcode (cd2.code hPs tr) (cd2.tab hPs) hf fun c' h' tk hx hge hlt hco' _ htab' _ => ?_
    obtain ⟨o1, vs', f1, tf, fl, tg', inF, tx, tt', op, _, _, _, _, _, _, _, _, _, htr, _⟩ := hco'
    exact cont _ h' tk _ hx (Nat.le_trans hge (Nat.le_of_lt hlt)) htab'.2 htr
  | some cv =>
    refine wpAny_genexprCode_hit hcode (cd2.code hPs tr) hf ?_
    exact cont cv s2.heap s2.toks #[] (Heap.ExtBut.refl _ _) (Nat.le_refl _) (by simpa using hPs) (by simpa using tr)
theorem pe_allG {c P : Addr} {elt tg iter : Expr} {ifs : List Expr} {p pos gpos : Pos} {scope : Scope} {own : List (Str × Nat)} {wi : TI} {gg : TG} {tt : TT} {te : TE} {k : Nat}
    (hr : Rm (k + 1) X.A) (TB : GxR.TabB X.base X.mg c P) (hcode : X.env.code = .ref c) (hc : X.calm = true) (hN : X.N.Nodup) (ok : GenOk X.N X.env.scope scope own) (hn : Gl X "all") (hm : X.mg "all" = none) (hi : PI X tg iter wi)
    (hg : ∀ (s : Shared) (H : Hp) (C : Addr) (cd : Value) (A : Around) (fp : List Addr), Rm k A → PG (gx X s H (gEnv X scope C cd) A fp) tg gg)
    (ht : ∀ (s : Shared) (H : Hp) (C : Addr) (cd : Value) (A : Around) (fp : List Addr), Rm k A → PTs (gx X s H (gEnv X scope C cd) A fp) ifs tt)
    (he : ∀ (s : Shared) (H : Hp) (C : Addr) (cd : Value) (A : Around) (fp : List Addr), Rm k A → PE (gx X s H (gEnv X scope C cd) A fp) elt te)
    (hs : ∀ x, genFold iter X.env x = pure x := by intro _; rfl) (hb : bootBuiltins "all" = some (.builtin "all") := by decide +kernel)
    (hst : starEach [.GeneratorExp elt [⟨tg, iter, ifs, 0⟩] scope gpos] X.env = (false, eval (.GeneratorExp elt [⟨tg, iter, ifs, 0⟩] scope gpos) X.env) :: starEach [] X.env := by rfl) :
    PE X (.Call (.Name "all" p) [.GeneratorExp elt [⟨tg, iter, ifs, 0⟩] scope gpos] [] pos) (tGen P wi gg tt te (own.map (·.2)) false) := by
  refine ⟨fun pins s σ H Q I h => ?_⟩
  refine wpAny_Call_Name_kw (ld_blt I hn hm hb ?_)
  refine PyProof.Rows.callWith_builtin1 ?_ hst (by rfl)
  rw [hst]
  show wpAny _ _ (spliced ((false, eval (.GeneratorExp elt [⟨tg, iter, ifs, 0⟩] scope gpos) X.env) :: backTo pos (starEach [] X.env))) _ _ s
  refine Calls.spliced_cons (gen_eval hr TB hcode hc hN ok hi hg ht he hs I h fun G a ob g n fp tn W s5 hgen hb5 rdy ep ew back => ?_)
  refine Calls.spliced_nil ?_
  refine call_function_tree F.kind_all F.plain_all F.entry_all (F.args_all1 _) ?_
  unfold Builtin.«all»
  refine wpAny_bind (m := oneArg "all" _) (wpAny_pure ?_)
  refine wpAny_bind (wpAny_pyIter_gen (hgen _ rdy.at') ?_)
  refine wpAny_pure ⟨plainId_quiet F.plain_all_loop _, ?_⟩
  rw [← ep, ← ew] at rdy ⊢
  exact all_turns hr.rm.hd (by have := hr.rm.dp; omega) hgen (fun b s' σ' H' I' q => ⟨.bl b, H', back σ' H' s' I', rfl, q⟩) n s5 hb5 rdy
theorem pe_anyG {c P : Addr} {elt tg iter : Expr} {ifs : List Expr} {p pos gpos : Pos} {scope : Scope} {own : List (Str × Nat)} {wi : TI} {gg : TG} {tt : TT} {te : TE} {k : Nat}
    (hr : Rm (k + 1) X.A) (TB : GxR.TabB X.base X.mg c P) (hcode : X.env.code = .ref c) (hc : X.calm = true) (hN : X.N.Nodup) (ok : GenOk X.N X.env.scope scope own) (hn : Gl X "any") (hm : X.mg "any" = none) (hi : PI X tg iter wi)
    (hg : ∀ (s : Shared) (H : Hp) (C : Addr) (cd : Value) (A : Around) (fp : List Addr), Rm k A → PG (gx X s H (gEnv X scope C cd) A fp) tg gg)
    (ht : ∀ (s : Shared) (H : Hp) (C : Addr) (cd : Value) (A : Around) (fp : List Addr), Rm k A → PTs (gx X s H (gEnv X scope C cd) A fp) ifs tt)
    (he : ∀ (s : Shared) (H : Hp) (C : Addr) (cd : Value) (A : Around) (fp : List Addr), Rm k A → PE (gx X s H (gEnv X scope C cd) A fp) elt te)
    (hs : ∀ x, genFold iter X.env x = pure x := by intro _; rfl) (hb : bootBuiltins "any" = some (.builtin "any") := by decide +kernel)
    (hst : starEach [.GeneratorExp elt [⟨tg, iter, ifs, 0⟩] scope gpos] X.env = (false, eval (.GeneratorExp elt [⟨tg, iter, ifs, 0⟩] scope gpos) X.env) :: starEach [] X.env := by rfl) :
    PE X (.Call (.Name "any" p) [.GeneratorExp elt [⟨tg, iter, ifs, 0⟩] scope gpos] [] pos) (tGen P wi gg tt te (own.map (·.2)) true) := by
  refine ⟨fun pins s σ H Q I h => ?_⟩
  refine wpAny_Call_Name_kw (ld_blt I hn hm hb ?_)
  refine PyProof.Rows.callWith_builtin1 ?_ hst (by rfl)
  rw [hst]
  show wpAny _ _ (spliced ((false, eval (.GeneratorExp elt [⟨tg, iter, ifs, 0⟩] scope gpos) X.env) :: backTo pos (starEach [] X.env))) _ _ s
  refine Calls.spliced_cons (gen_eval hr TB hcode hc hN ok hi hg ht he hs I h fun G a ob g n fp tn W s5 hgen hb5 rdy ep ew back => ?_)
  refine Calls.spliced_nil ?_
  refine call_function_tree F.kind_any F.plain_any F.entry_any (F.args_any1 _) ?_
  unfold Builtin.«any»
  refine wpAny_bind (m := oneArg "any" _) (wpAny_pure ?_)
  refine wpAny_bind (wpAny_pyIter_gen (hgen _ rdy.at') ?_)
  refine wpAny_pure ⟨plainId_quiet F.plain_any_loop _, ?_⟩
  rw [← ep, ← ew] at rdy ⊢
  exact any_turns hr.rm.hd (by have := hr.rm.dp; omega) hgen (fun b s' σ' H' I' q => ⟨.bl b, H', back σ' H' s' I', rfl, q⟩) n s5 hb5 rdy
end
end Wg

/-! Wagon, part 31: tables of code objects: what stays, how such readings go on, defs that hold a generator expression, the end. -/
namespace Wg
open PySem PySem.Spec PyProof.Rows L2

/-- the tables at L are tables -/
def Tabs (L : List Addr) (H : Hp) : Prop := ∀ p ∈ L, GxR.TabG H p
/-- all but the tables at L is kept, and these stay tables -/
structure KT (L : List Addr) (H H' : Hp) : Prop where
  k : Keep L H H'
  t : Tabs L H → Tabs L H'
theorem KT.refl (L : List Addr) (H : Hp) : KT L H H := ⟨Keep.refl _ _, id⟩
theorem KT.trans {L : List Addr} {H H1 H2 : Hp} (a : KT L H H1) (b : KT L H1 H2) : KT L H H2 := ⟨a.k.trans b.k, fun h => b.t (a.t h)⟩
theorem Tabs.keep0 {L : List Addr} {H H' : Hp} (h : Tabs L H) (k : Keep [] H H') : Tabs L H' := fun p hp => let ⟨ps, e, t⟩ := h p hp; ⟨ps, k _ _ nin0 e, t⟩
theorem KT.of0 {L : List Addr} {H H' : Hp} (k : Keep [] H H') : KT L H H' := ⟨k.all, fun h => h.keep0 k⟩
theorem Tabs.nin {L : List Addr} {H : Hp} (h : Tabs L H) {b : Addr} {o : HO} (e : H b = some o) (n : ∀ ps, o ≠ .tbl ps) : b ∉ L := fun z => by
  obtain ⟨ps, e', _⟩ := h b z
  rw [e] at e'
  exact n ps (Option.some.inj e')
theorem Tabs.ninN {L : List Addr} {H : Hp} (h : Tabs L H) {b : Addr} (e : H b = none) : b ∉ L := fun z => by
  obtain ⟨ps, e', _⟩ := h b z
  rw [e] at e'
  cases e'
theorem Tabs.noTup {L : List Addr} {H : Hp} (h : Tabs L H) : ∀ a xs, Tup H a xs → a ∉ L := fun a xs ⟨ob, e, _⟩ => h.nin e fun ps z => nomatch z
theorem Tabs.lst {L : List Addr} {H : Hp} (h : Tabs L H) {a : Addr} {xs : List V} (e : H a = some (.lst xs)) : a ∉ L := h.nin e fun ps z => nomatch z
theorem Tabs.dK {L : List Addr} {H : Hp} (h : Tabs L H) {a : Addr} {xs : List (Key × V)} (e : H a = some (.dK xs)) : a ∉ L := h.nin e fun ps z => nomatch z
/-- a new cell is changed -/
theorem KT.past {L : List Addr} {H H1 H2 : Hp} {d : Addr} (k1 : KT L H H1) (k2 : Keep [d] H1 H2) (n : H d = none) (ht : Tabs L H) : KT L H H2 := by
  have t1 := k1.t ht
  refine ⟨fun b o hb e => k2 b o (nin1 (ne_of_none e n)) (k1.k b o hb e), fun _ p hp => ?_⟩
  obtain ⟨ps, e, tr⟩ := t1 p hp
  refine ⟨ps, k2 _ _ (nin1 fun z => ?_) e, tr⟩
  rw [z] at hp
  exact ht.ninN n hp
theorem kt_tab {L : List Addr} {P : Addr} {H H' : Hp} (h : P ∈ L) (t : GxR.Tabbed P H H') : KT L H H' := by
  refine ⟨fun b o hb e => (t.2 b fun z => hb (z ▸ h)).trans e, fun ht p hp => ?_⟩
  by_cases z : p = P
  · rw [z]
    exact t.1
  · obtain ⟨ps, e, tr⟩ := ht p hp
    exact ⟨ps, (t.2 p z).trans e, tr⟩
theorem Tabs.sqT {K : PySem.W.Frag} {L : List Addr} {H H' : Hp} {a : Addr} {xs : List V} (ht : Tabs L H) (k : KT L H H') (h : SqT K H a xs) : SqT K H' a xs := by
  rcases h with (h | ⟨o, h⟩) | h
  · exact .inl (.inl (k.k _ _ (ht.nin h fun ps z => nomatch z) h))
  · exact .inl (.inr ⟨o, k.k _ _ (ht.nin h fun ps z => nomatch z) h⟩)
  · exact .inr h
theorem Tabs.sqL {K : PySem.W.Frag} {L : List Addr} {H H' : Hp} {a : Addr} {xs : List V} (ht : Tabs L H) (k : KT L H H') (h : SqL K H a xs) : SqL K H' a xs := by
  rcases h with (h | ⟨o, h⟩) | h
  · exact .inl (.inl (k.k _ _ (ht.nin h fun ps z => nomatch z) h))
  · exact .inl (.inr ⟨o, k.k _ _ (ht.nin h fun ps z => nomatch z) h⟩)
  · exact .inr h
mutual
theorem dp_kt {K : PySem.W.Frag} {L : List Addr} {H H' : Hp} (ht : Tabs L H) (k : KT L H H') : ∀ {v : V} {d : PyData}, Dp K H v d → Dp K H' v d
  | _, _, .non => .non
  | _, _, .bl b => .bl b
  | _, _, .int i => .int i
  | _, _, .str x => .str x
  | _, _, .lst h a => .lst (ht.sqL k h) (dps_kt ht k a)
  | _, _, .tup h a => .tup (ht.sqT k h) (dps_kt ht k a)
theorem dps_kt {K : PySem.W.Frag} {L : List Addr} {H H' : Hp} (ht : Tabs L H) (k : KT L H H') : ∀ {vs : List V} {ds : List PyData}, DpAll K H vs ds → DpAll K H' vs ds
  | _, _, .nil => .nil
  | _, _, .cons h r => .cons (dp_kt ht k h) (dps_kt ht k r)
end

/-! ### readings -/
def GU (K : PySem.W.Frag) (P : Addr) (g : TG) (tt : TT) (te : TE) (vs : List Nat) (stop : Bool) (σ : L2.St) (Q : VK) (x : V) (H1 : Hp) : Prop := iU K (tC x) σ H1 fun J H1 => GxR.TabG H1 P ∧ ∀ H2, GxR.Tabbed P H1 H2 → ∃ W : Nat → Nat → Hp → Prop, (∃ m, W 0 m H2) ∧ TurnW J g tt te vs σ W Q stop
theorem e_genU {K : PySem.W.Frag} {P : Addr} {tl : TE} {g : TG} {tt : TT} {te : TE} {vs : List Nat} {stop : Bool} {σ : L2.St} {H : Hp} {Q : VK} : tGen P (iU K tl) g tt te vs stop σ H Q ↔ tl σ H (GU K P g tt te vs stop σ Q) := Iff.rfl
/-- of the turns: n of them, turn i's truth f i -/
theorem gen_of {L : List Addr} {n : Nat} {it : Nat → V} {J : It} {g : TG} {tt : TT} {te : TE} {vs : List Nat} {σ : L2.St} {H2 : Hp} {Q : VK} {stop : Bool} (f : Nat → Bool)
    (hgo : ∀ i H, i < n → KT L H2 H → J.go i H) (hy : ∀ i H x H', i < n → KT L H2 H → J.yld i H x H' → x = it i ∧ H' = H) (hst : ∀ H, KT L H2 H → J.stop n H)
    (hs : ∀ i H (R : VK) (R0 : Hp → Prop), i < n → KT L H2 H → (∀ H4, KT L H H4 → R (.bl (f i)) H4) → g (it i) (wipe σ vs) H fun σ2 H3 => wipe σ2 vs = wipe σ vs ∧ tt σ2 H3 fun b H4 => if b = true then te σ2 H4 R else R0 H4)
    (q : ∀ H', KT L H2 H' → Q (.bl (if stop = true then (List.range n).any f else (List.range n).all f)) H') : ∃ W : Nat → Nat → Hp → Prop, (∃ m, W 0 m H2) ∧ TurnW J g tt te vs σ W Q stop := by
  refine ⟨fun i m H => m = n - i ∧ i ≤ n ∧ KT L H2 H ∧ ∀ j, j < i → f j = !stop, ⟨n, by omega, by omega, KT.refl _ _, fun _ h => by omega⟩, ?_⟩
  rintro i m H ⟨rfl, hi, k, hf⟩
  by_cases hlt : i < n
  · refine .inr ⟨hgo i H hlt k, fun H' => KT L H2 H' ∧ ∀ j, j < i + 1 → f j = !stop, fun H' h => ⟨n - (i + 1), by omega, rfl, hlt, h⟩, fun x H' y => ?_⟩
    obtain ⟨ex, eh⟩ := hy i H x H' hlt k y
    rw [ex, eh]
    refine hs i H _ _ hlt k fun H4 k4 => ⟨f i, rfl, ?_⟩
    by_cases e : f i = stop
    · rw [if_pos e]
      have q4 := q H4 (k.trans k4)
      cases stop with
      | true =>
        rw [if_pos rfl, List.any_eq_true.mpr ⟨i, List.mem_range.mpr hlt, e⟩] at q4
        exact q4
      | false =>
        rw [if_neg Bool.false_ne_true] at q4
        have : (List.range n).all f = false := by
          rw [List.all_eq_false]
          exact ⟨i, List.mem_range.mpr hlt, by rw [e]; decide⟩
        rw [this] at q4
        exact q4
    · rw [if_neg e]
      refine ⟨k.trans k4, fun j hj => ?_⟩
      rcases Nat.lt_succ_iff_lt_or_eq.mp hj with h | h
      · exact hf j h
      · rw [h]
        exact not_stop e
  · have e : i = n := by omega
    subst e
    refine .inl ⟨hst H k, ?_⟩
    have q4 := q H k
    cases stop with
    | true =>
      rw [if_pos rfl] at q4
      have : (List.range i).any f = false := by
        rw [List.any_eq_false]
        intro j hj
        rw [hf j (List.mem_range.mp hj)]
        decide
      rw [this] at q4
      exact q4
    | false =>
      rw [if_neg Bool.false_ne_true] at q4
      have : (List.range i).all f = true := by
        rw [List.all_eq_true]
        intro j hj
        rw [hf j (List.mem_range.mp hj)]
        rfl
      rw [this] at q4
      exact q4
theorem range_any {α : Type} {rs : List α} {f : α → Bool} {d : Bool} : (List.range rs.length).any (fun i => (rs[i]?.map f).getD d) = rs.any f := by
  rw [Bool.eq_iff_iff, List.any_eq_true, List.any_eq_true]
  constructor
  · rintro ⟨i, hi, e⟩
    have hi := List.mem_range.mp hi
    rw [List.getElem?_eq_getElem hi] at e
    exact ⟨_, List.getElem_mem hi, e⟩
  · rintro ⟨x, hx, e⟩
    obtain ⟨i, hi, rfl⟩ := List.getElem_of_mem hx
    exact ⟨i, List.mem_range.mpr hi, by rw [List.getElem?_eq_getElem hi]; exact e⟩
theorem range_all {α : Type} {rs : List α} {f : α → Bool} {d : Bool} : (List.range rs.length).all (fun i => (rs[i]?.map f).getD d) = rs.all f := by
  rw [Bool.eq_iff_iff, List.all_eq_true, List.all_eq_true]
  constructor
  · intro h x hx
    obtain ⟨i, hi, rfl⟩ := List.getElem_of_mem hx
    have := h i (List.mem_range.mpr hi)
    rw [List.getElem?_eq_getElem hi] at this
    exact this
  · intro h i hi
    have hi := List.mem_range.mp hi
    rw [List.getElem?_eq_getElem hi]
    exact h _ (List.getElem_mem hi)
theorem each_got {α β : Type} {R : α → β → Prop} : ∀ {vs : List α} {rs : List β} {i : Nat} {v : α}, PySem.W.EachIs R vs rs → vs[i]? = some v → ∃ r, rs[i]? = some r ∧ R v r
  | _, _, _, _, .nil, e => by simp at e
  | _, _, 0, _, .cons (b := q) h _, e => by
    simp at e
    subst e
    exact ⟨q, rfl, h⟩
  | _, _, i + 1, _, .cons _ t, e => by
    obtain ⟨q, h1, h2⟩ := each_got (i := i) t (by simpa using e)
    exact ⟨q, by simpa using h1, h2⟩
def aaB {α : Type} (stop : Bool) (f : α → Bool) (rs : List α) : Bool := if stop = true then rs.any f else rs.all f
/-- over a list or a tuple of things, wherever it stands -/
theorem g_GE {K : PySem.W.Frag} {L : List Addr} {P : Addr} {α : Type} {RR : Hp → V → α → Prop} {g : TG} {tt : TT} {te : TE} {vs : List Nat} {stop : Bool} {σ : L2.St} {H1 : Hp} {Q : VK} {a : Addr} {xs : List V} {rs : List α} (f : α → Bool) (hT : Tabs L H1) (hP : P ∈ L)
    (hx : SqL K H1 a xs ∨ SqT K H1 a xs) (he : PySem.W.EachIs (RR H1) xs rs) (hk : ∀ H' x r, RR H1 x r → KT L H1 H' → RR H' x r)
    (hs : ∀ (i : Nat) (x : V) (r : α) (H : Hp) (R : VK) (R0 : Hp → Prop), rs[i]? = some r → KT L H1 H → Tabs L H → RR H x r → (∀ H4, KT L H H4 → R (.bl (f r)) H4) → g x (wipe σ vs) H fun σ2 H3 => wipe σ2 vs = wipe σ vs ∧ tt σ2 H3 fun b H4 => if b = true then te σ2 H4 R else R0 H4)
    (q : ∀ H', KT L H1 H' → Q (.bl (aaB stop f rs)) H') : GU K P g tt te vs stop σ Q (.ref a) H1 := by
  have hl := he.length
  have tail : ∀ {J : It} {H2 : Hp}, GxR.Tabbed P H1 H2 → (∀ i H, i < xs.length → KT L H2 H → J.go i H) → (∀ i H x H', i < xs.length → KT L H2 H → J.yld i H x H' → x = xs.getD i .non ∧ H' = H) → (∀ H, KT L H2 H → J.stop xs.length H) →
      ∃ W : Nat → Nat → Hp → Prop, (∃ m, W 0 m H2) ∧ TurnW J g tt te vs σ W Q stop := fun {J H2} t h1 h2 h3 => by
    have k12 := kt_tab hP t
    refine gen_of (L := L) (n := xs.length) (it := fun i => xs.getD i .non) (fun i => (rs[i]?.map f).getD stop) h1 h2 h3 (fun i H R R0 hi k hR => ?_) fun H' k => ?_
    · obtain ⟨r, e1, e2⟩ := each_got he (List.getElem?_eq_getElem hi)
      have e3 : xs.getD i .non = xs[i] := by rw [List.getD_eq_getElem?_getD, List.getElem?_eq_getElem hi]; rfl
      show g (xs.getD i .non) _ _ _
      rw [e3]
      rw [e1] at hR
      exact hs i _ r H R R0 e1 (k12.trans k) ((k12.trans k).t hT) (hk _ _ _ e2 (k12.trans k)) hR
    · rw [hl, range_any, range_all]
      exact q H' (k12.trans k)
  have kk : ∀ {H2 H}, GxR.Tabbed P H1 H2 → KT L H2 H → KT L H1 H := fun t k => (kt_tab hP t).trans k
  rcases hx with hx | hx
  · exact .inl ⟨a, xs, rfl, hx, hT P hP, fun H2 t => tail t (fun i H hi k => ⟨xs, xs[i], hT.sqL (kk t k) hx, List.getElem?_eq_getElem hi⟩) (fun i H x H' hi k y => ⟨by rw [List.getD_eq_getElem?_getD, y.2 xs (hT.sqL (kk t k) hx)]; rfl, y.1⟩) fun H k => ⟨xs, hT.sqL (kk t k) hx, Nat.le_refl _⟩⟩
  · exact .inr (.inl ⟨a, xs, rfl, hx, hT P hP, fun H2 t => tail t (fun i H hi k => ⟨xs, xs[i], hT.sqT (kk t k) hx, List.getElem?_eq_getElem hi⟩) (fun i H x H' hi k y => ⟨by rw [List.getD_eq_getElem?_getD, y.2 xs (hT.sqT (kk t k) hx)]; rfl, y.1⟩) fun H k => ⟨xs, hT.sqT (kk t k) hx, Nat.le_refl _⟩⟩)
/-- over a text's signs -/
theorem g_GS {K : PySem.W.Frag} {L : List Addr} {P : Addr} {g : TG} {tt : TT} {te : TE} {vs : List Nat} {stop : Bool} {σ : L2.St} {H1 : Hp} {Q : VK} {z : Str} (f : Nat → Bool) (hT : Tabs L H1) (hP : P ∈ L)
    (hs : ∀ c H (R : VK) (R0 : Hp → Prop), c ∈ z.cps.toList → KT L H1 H → Tabs L H → (∀ H4, KT L H H4 → R (.bl (f c)) H4) → g (.str ⟨#[c]⟩) (wipe σ vs) H fun σ2 H3 => wipe σ2 vs = wipe σ vs ∧ tt σ2 H3 fun b H4 => if b = true then te σ2 H4 R else R0 H4)
    (q : ∀ H', KT L H1 H' → Q (.bl (aaB stop f z.cps.toList)) H') : GU K P g tt te vs stop σ Q (.str z) H1 := by
  refine .inr (.inr ⟨z, rfl, hT P hP, fun H2 t => ?_⟩)
  have k12 := kt_tab hP t
  have sz : z.cps.size = z.cps.toList.length := by simp
  refine gen_of (L := L) (n := z.cps.size) (it := fun i => .str ⟨#[z.cps.getD i 0]⟩) (fun i => (z.cps.toList[i]?.map f).getD stop) (fun i H hi k => hi) (fun i H x H' hi k y => ?_) (fun H k => Nat.le_refl _) (fun i H R R0 hi k hR => ?_) fun H' k => ?_
  · obtain ⟨e1, c, e2, e3⟩ := y
    refine ⟨?_, e1⟩
    rw [e3, Array.getD_eq_getD_getElem?, e2]
    rfl
  · have hi' : i < z.cps.toList.length := by rw [← sz]; exact hi
    have e : z.cps.getD i 0 = z.cps.toList[i] := by
      rw [Array.getD_eq_getD_getElem?, ← Array.getElem?_toList, List.getElem?_eq_getElem hi']
      rfl
    rw [List.getElem?_eq_getElem hi'] at hR
    show g (.str ⟨#[z.cps.getD i 0]⟩) _ _ _
    rw [e]
    exact hs _ H R R0 (List.getElem_mem hi') (k12.trans k) ((k12.trans k).t hT) hR
  · rw [sz, range_any, range_all]
    exact q H' (k12.trans k)

/-! ### defs that hold a generator expression -/
section
variable {P : Program} {w : World} {K : PySem.W.Frag} {mg : Str → Option Value} {b : Heap}
theorem keepsT {x qual : Str} {st : Stmt} {f c : Addr} {fd : FuncData} {N ps : List Str} {k : Nat} {sp : Sp} (F : Fun K x qual st f fd) (hc : fd.code = .ref c) (S : FnScope N ps (defScope st))
    (len : ∀ vs H Q E, sp vs H Q E → vs.length = ps.length)
    (body : ∀ (A : Around) (o : List Env) (s : Shared) (H : Hp) (vs : List V) (Q : VK) (E : XK), Rm k (A.deeper (envOfC qual (defScope st) s.heap.objs.size f (.ref c))) → sp vs H Q E →
      ∃ t, PSs (cxOf CX0 P w K mg b N qual (defScope st) f (.ref c) A o s H E).nox (defBody st) t ∧ t { nx := fun _ H' => Q .non H', rt := Q } (start N vs) H) :
    Keeps P w K mg b CX0 (k + 1) f fd ps sp := by
  obtain ⟨oc, od, kV, doc, pm, an, cdv, ct, osl, rfl, lk, hcd⟩ := F.ex
  obtain rfl : cdv = .ref c := hc
  refine ⟨len, fun A o s H g us vs Q E hr e0 hb r hsp => ?_⟩
  have hl := len _ _ _ _ hsp
  have up : ∀ {a : Addr} {ob : Obj}, b.get? a = some ob → s.heap.get? a = some ob := fun {a ob} q => (e0.bs a ob q).1
  have inK : K.In s.heap := e0.mod.kin.keeps fun _ _ q => up q
  have nolim : s.heap.NoLimit := e0.mod.nolimit.keeps fun _ _ q => up q
  have kinds : ∀ y ∈ ps.zip us, (defScope st).names.lookup y.1 = some .local ∨ ((defScope st).names.lookup y.1 = some .cell ∧ ((cellsFrom (s.heap.objs.size + 1) (defScope st).names []).lookup y.1).isSome = true) := by
    rintro ⟨n, v⟩ hy
    have hn := S.par n (List.of_mem_zip hy).1
    exact hn.imp id fun q => ⟨q, PySem.W.cellsFrom_some _ _ _ (.inl q)⟩
  have recd := PySem.W.codeRec_of inK hcd
  refine codeAny_call_function hr.rm.depth (inK _ _ lk) rfl S.co S.gen rfl recd (hb _ _ _ _ ?_)
  refine wpAny_newFunctionEnv_cells S.kind kinds ?_
  intro env he s1 y
  subst he
  refine ⟨nolim.keeps y.toInCall.keep, codeAny_func ?_⟩
  obtain ⟨t, ht, hq⟩ := body A o s H vs Q E (hr.deep _) hsp
  have I := inv_start (CX := CX0) (E := E) S hr.rm.hd e0 hl r y
  refine wpAny_mono (ht.nox.run [] s1 (start N vs) H _ I hq) ?_ fun _ _ q => q
  intro fl s' hs
  match fl, hs with
  | .ret u, hs =>
    obtain ⟨v, σ', H', J, rv, q⟩ := hs
    exact ⟨v, H', J.os, J.bare, J.base, J.hok, rv, q⟩
  | .next, hs =>
    obtain ⟨σ', H', J, q⟩ := hs
    exact ⟨.non, H', J.os, J.bare, J.base, J.hok, rfl, q⟩
  | .brk, hs => exact hs.elim fun _ z => z.elim fun _ y => y.2.elim
  | .cont, hs => exact hs.elim fun _ z => z.elim fun _ y => y.2.elim
end

/-! ### the end, with tables -/
/-- what may be tracked at the beginning: the script, locked, and the tables -/
def OnlyT (L : List Addr) (H : Hp) : Prop := ∀ b, H b = none ∨ (b ∈ L ∧ H b = some (.tbl #[])) ∨ ∃ o xs, H b = some (.frz o (.lst xs))
/-- the table of the code object at c, no object of the module's own -/
def tabIn (K : PySem.W.Frag) (c : Addr) : Option Addr := match K.lookup c with
  | some o => match o.data with
    | .fields vs => match vs[11]? with
      | some (Value.ref P) => if (K.lookup P).isNone then some P else none
      | _ => none
    | _ => none
  | none => none
theorem tabIn_ok {K : PySem.W.Frag} {h : Heap} {c P P' : Addr} (hK : K.In h) (e : tabIn K c = some P) (t : h.TableAt c P' #[]) : P' = P ∧ K.lookup P = none := by
  unfold tabIn at e
  split at e
  · rename_i o lk
    have ho := hK _ _ lk
    obtain ⟨⟨o', vs', e1, _, e3, e4⟩, _⟩ := t
    rw [ho] at e1
    cases e1
    rw [e3] at e
    dsimp only at e
    rw [e4] at e
    dsimp only at e
    split at e
    · rename_i hn
      cases e
      exact ⟨rfl, Option.isNone_iff_eq_none.mp hn⟩
    · cases e
  · cases e
theorem endT {P : Program} {w : World} {K : PySem.W.Frag} {mg mb : Str → Option Value} {k : Nat} {fa a : Addr} {fd : FuncData} {x : Str} {cs : List (Addr × Addr)} {sp : Sp} {s : Shared} {vs : List Value} {ns : List Int}
    (KX : K.In s.heap) (hns : s.heap.Ns mainGlobals mg) (hb : s.heap.Ns builtinsNs mb) (hbb : ∀ x : Str, x ≠ "__name__" → mb x = bootBuiltins x) (hlim : s.heap.NoLimit) (hg : s.gens = #[])
    (tab : ∀ p ∈ cs, s.heap.IsCode p.1 p.2 #[] ∧ s.heap.TableAt p.1 p.2 #[] ∧ K.lookup p.2 = none)
    (hbm : ∃ (bm : Addr) (ob : Obj), mg "__builtins__" = some (.ref bm) ∧ bm ≠ builtinsNs ∧ s.heap.get? bm = some ob ∧ ob.cls = .type "module" ∧ ob.dict = some builtinsNs ∧ ob.data = .plain)
    (ha : s.heap.get? a = some { cls := .type "list", data := .seq vs.toArray }) (hi : IntsAre vs ns) (hl : ns.length ≤ sizeLine) (hr : Rm k callerA)
    (F : ∀ b : Heap, K.In b → b.Ns mainGlobals mg → (∀ p ∈ cs, GxR.TabB b mg p.1 p.2) → Keeps P w K mg b CX0 k fa fd [x] sp) (hbind : ∀ (s : Shared) (u : Value), BindsTo s fd ⟨[u], []⟩ [(x, u)])
    (hsp : ∀ H : Hp, OnlyT (cs.map (·.2)) H → Tabs (cs.map (·.2)) H → SqL K H a (ns.map V.int) → sp [.ref a] H (fun v _ => v = .bl true) fun _ _ _ => False) :
    codeAny (model P w) callerA (.call (.ref fa) ⟨[.ref a], []⟩) (fun r s' => r = .ok (.ret (.bool true)) ∧ OldK s.heap s'.heap ∧ s'.os = s.os ∧ AllBare s'.gens) s := by
  have lenV := hi.length
  have rv := vals_ints hi
  have obT : ∀ b : Addr, b ∈ cs.map (·.2) → s.heap.get? b = some { cls := .none, data := .fields #[] } := fun b hm => by
    obtain ⟨p, hp, rfl⟩ := List.mem_map.mp hm
    exact (tab p hp).2.1.2
  have naT : a ∉ cs.map (·.2) := fun hm => by
    have q := obT a hm
    rw [ha] at q
    have q' := congrArg Obj.data (Option.some.inj q)
    cases q'
  let H0 : Hp := fun b => if b ∈ cs.map (·.2) then some (.tbl #[]) else if b = a ∧ K.lookup a = none then some (.frz { cls := .type "list", data := .seq vs.toArray } (.lst (ns.map V.int))) else none
  have atT : ∀ {b}, b ∈ cs.map (·.2) → H0 b = some (.tbl #[]) := fun hm => if_pos hm
  have only : OnlyT (cs.map (·.2)) H0 := fun b => by
    by_cases h1 : b ∈ cs.map (·.2)
    · exact .inr (.inl ⟨h1, if_pos h1⟩)
    · by_cases h2 : b = a ∧ K.lookup a = none
      · exact .inr (.inr ⟨_, _, (if_neg h1).trans (if_pos h2)⟩)
      · exact .inl ((if_neg h1).trans (if_neg h2))
  have where_ : ∀ b, H0 b ≠ none → b ∈ cs.map (·.2) ∨ (b = a ∧ K.lookup a = none) := fun b n => by
    by_cases h1 : b ∈ cs.map (·.2)
    · exact .inl h1
    · by_cases h2 : b = a ∧ K.lookup a = none
      · exact .inr h2
      · exact absurd ((if_neg h1).trans (if_neg h2)) n
  have tabs : Tabs (cs.map (·.2)) H0 := fun p hp => ⟨#[], atT hp, trivial⟩
  have sq : SqL K H0 a (ns.map V.int) := by
    cases q : K.lookup a with
    | none => exact .inl (.inr ⟨_, (if_neg naT).trans (if_pos ⟨rfl, q⟩)⟩)
    | some o =>
      have e := (KX a o q).symm.trans ha
      obtain rfl := Option.some.inj e
      exact .inr ⟨_, vs.toArray, _, q, rfl, rfl, rfl, by rw [List.size_toArray, lenV]; exact hl, by simpa using rv⟩
  have hok : HOk P w H0 s.heap := fun c u z => by
    rcases where_ c (by rw [z]; exact Option.some_ne_none u) with h | ⟨rfl, h⟩
    · rw [atT h] at z
      cases z
      exact obT c h
    · rw [show H0 c = _ from (if_neg naT).trans (if_pos ⟨rfl, h⟩)] at z
      cases z
      exact ⟨ha, by rw [List.length_map]; exact hl, vs, _, rv, ha⟩
  have stays : ∀ {c : Addr} {o : Obj}, s.heap.get? c = some o → (∀ u n, o.data ≠ .seq u n) → o.data ≠ .fields #[] → H0 c = none := fun {c o} e h1 h2 => by
    match q : H0 c with
    | none => rfl
    | some u =>
      rcases where_ c (by rw [q]; exact Option.some_ne_none u) with h | ⟨rfl, _⟩
      · rw [obT c h] at e
        cases e
        exact (h2 rfl).elim
      · rw [ha] at e
        cases e
        exact (h1 _ _ rfl).elim
  have dictOut : ∀ {c : Addr} {o : Obj} {es : Array DictEntry} {ep : Nat}, s.heap.get? c = some o → o.data = .dict es ep → H0 c = none := fun e d => stays e (fun u n z => by rw [d] at z; cases z) fun z => by rw [d] at z; cases z
  have ns' : ∀ {c : Addr} {m : Str → Option Value}, s.heap.Ns c m → (hidT s.heap H0).Ns c m := fun ⟨o, es, ep, e, d, r⟩ => ⟨o, es, ep, hidT_get e (dictOut e d), d, r⟩
  have kin : K.In (hidT s.heap H0) := fun c o e => by
    refine hidT_get (KX c o e) ?_
    match q : H0 c with
    | none => rfl
    | some u =>
      rcases where_ c (by rw [q]; exact Option.some_ne_none u) with h | ⟨rfl, h⟩
      · obtain ⟨p, hp, rfl⟩ := List.mem_map.mp h
        rw [(tab p hp).2.2] at e
        cases e
      · rw [h] at e
        cases e
  obtain ⟨mc, l1, l2⟩ := hlim
  have M : Mod K mg (hidT s.heap H0) := ⟨kin, ns' hns, ⟨mb, ns' hb, hbb⟩, ⟨mc, ns' l1, l2⟩⟩
  have nG : ∀ {p : Addr}, p ∈ cs.map (·.2) → mainGlobals ≠ p := fun hm z => by
    obtain ⟨o, es, ep, e, d, _⟩ := hns
    rw [z, obT _ hm] at e
    cases e
    cases d
  have TB : ∀ p ∈ cs, GxR.TabB (hidT s.heap H0) mg p.1 p.2 := fun p hp => by
    have hm : p.2 ∈ cs.map (·.2) := List.mem_map.mpr ⟨p, hp, rfl⟩
    refine ⟨?_, ?_, nG hm⟩
    · obtain ⟨o, us, file, tf, flags, tg, inF, text, tt, e1, r1, r2, r3, rest⟩ := PySem.W.CodeHd.of (tab p hp).1 (tab p hp).2.1
      refine ⟨o, us, file, tf, flags, tg, inF, text, tt, hidT_get e1 (stays e1 (fun u n z => ?_) fun z => ?_), r1, r2, r3, rest⟩
      · rw [r2] at z
        cases z
      · rw [r2] at z
        cases z
        simp at r3
    · obtain ⟨bm, ob, b1, b2, b3, b4, b5, b6⟩ := hbm
      refine ⟨bm, ob, b1, b2, fun z => ?_, fun z => ?_, hidT_get b3 (stays b3 (fun u n z => ?_) fun z => ?_), b4, b5, b6⟩
      · obtain ⟨o, es, ep, e, d, _⟩ := hns
        rw [z, e] at b3
        cases b3
        rw [d] at b6
        cases b6
      · rw [z, obT _ hm] at b3
        cases b3
        cases b6
      · rw [b6] at z
        cases z
      · rw [b6] at z
        cases z
  have e0 : Env0 P w K mg (hidT s.heap H0) callerA [] s H0 :=
    ⟨rfl, M, fun c o e => of_hidT e, Nat.le_of_eq (hidT_size _ _), trivial, fun c hc => (List.not_mem_nil hc).elim, hok, .of_eq hg⟩
  have run := (F _ kin (ns' hns) TB).run callerA [] s H0 ⟨[.ref a], []⟩ [.ref a] [.ref a] _ _ hr e0 (hbind s (.ref a)) (.cons rfl .nil) (hsp H0 only tabs sq)
  refine codeAny_mono run fun res s' hq => ?_
  match res, hq with
  | .error e, hq => exact hq.elim
  | .ok .next, hq => exact hq.elim
  | .ok .brk, hq => exact hq.elim
  | .ok .cont, hq => exact hq.elim
  | .ok (.ret u), hq =>
    obtain ⟨v, H', os, bare, un, hok', r', q⟩ := hq
    obtain rfl : v = .bl true := q
    obtain rfl : u = Value.bool true := r'
    have grown : ∀ p ∈ cs, ∃ more : Array Value, s'.heap.get? p.2 = some { cls := .none, data := .fields more } := fun p hp => by
      obtain ⟨more, z⟩ := un.tbls p.2 #[] (atT (List.mem_map.mpr ⟨p, hp, rfl⟩))
      exact ⟨_, hok' p.2 _ z⟩
    have rest : ∀ c o, c ∉ cs.map (·.2) → s.heap.get? c = some o → s'.heap.get? c = some o := fun c o hn e => by
      rcases only c with z | ⟨z, _⟩ | ⟨ob, xs, z⟩
      · exact un.keep c o e z List.not_mem_nil List.not_mem_nil
      · exact absurd z hn
      · have z1 := (hok c _ z).1
        have z2 := (hok' c _ (un.frzs c ob _ z)).1
        exact z2.trans (z1.symm.trans e)
    refine ⟨rfl, ⟨fun c o e => ?_, fun c o e => ?_⟩, os, bare⟩
    · by_cases hm : c ∈ cs.map (·.2)
      · obtain ⟨p, hp, rfl⟩ := List.mem_map.mp hm
        obtain ⟨more, g⟩ := grown p hp
        rw [obT _ hm] at e
        cases e
        exact .inr (.inl ⟨(tab p hp).2.1.isCodeTable, rfl, #[], more, rfl, by rw [Array.empty_append]; exact g⟩)
      · exact .inl (rest c o hm e)
    · by_cases hm : c ∈ cs.map (·.2)
      · obtain ⟨p, hp, rfl⟩ := List.mem_map.mp hm
        obtain ⟨more, g⟩ := grown p hp
        exact ⟨_, g⟩
      · exact ⟨o, rest c o hm e⟩
/-- a def of the text with its code object and that one's table -/
structure TabDef (q : Program) (K : PySem.W.Frag) (mg : Str → Option Value) (t : Str × Addr × Addr) : Prop where
  r : ((recsOf q).any fun e => e.name == t.1) = true
  f : ∃ (fa : Addr) (o : Obj) (fd : FuncData), mg t.1 = some (.ref fa) ∧ K.lookup fa = some o ∧ o.data = .func fd ∧ fd.code = .ref t.2.1
  t : tabIn K t.2.1 = some t.2.2
theorem walk_endT {l : PySem.W.OpenLaw} {n k : Nat} {q : Program} {loose : List Str} {XP : (Str → Option Value) → Heap → Prop} {YP : World → Heap → Prop} {d : DefRec} {K : Params → PySem.W.Frag} {sp : PySem.W.Frag → List Addr → Sp} {x : Str}
    (hn : l.most = some n) (hn2 : n ≤ sizeLine) (hdf : d.params.defaults = []) (hr : Rm k callerA) (hY : ∀ (w : World) (h : Heap), YP w h → (K w.params).In h)
    (F : ∀ (w : World) (mg : Str → Option Value) (fa : Addr) (h : Heap), (K w.params).In h → h.Ns mainGlobals mg → mg d.name = some (.ref fa) →
      ∃ (fd : FuncData) (ts : List (Str × Addr × Addr)), (∀ t ∈ ts, TabDef q (K w.params) mg t) ∧ (∀ (s : Shared) (u : Value), BindsTo s fd ⟨[u], []⟩ [(x, u)]) ∧
        ∀ b : Heap, (K w.params).In b → b.Ns mainGlobals mg → (∀ t ∈ ts, GxR.TabB b mg t.2.1 t.2.2) → Keeps l.prog w (K w.params) mg b CX0 k fa fd [x] (sp (K w.params) (ts.map fun t => t.2.2)))
    (hsp : ∀ (K : PySem.W.Frag) (L : List Addr) (H : Hp) (a : Addr) (ns : List Int), ns.length ≤ n → OnlyT L H → Tabs L H → SqL K H a (ns.map V.int) → sp K L [.ref a] H (fun v _ => v = .bl true) fun _ _ _ => False) :
    PySem.W.WalkO q loose XP YP l.row.toRowW d [] (fun f vs => PySem.call f vs) := by
  refine Att.attach_call hn hdf ?_
  intro w s₀ s₁ mg mb fa o pm cd doc a vs ns G Y ho hd hcd hmg hobj hints hlen hg
  have kin := hY w _ Y
  obtain ⟨fd, ts, hts, hb, hF⟩ := F w mg fa _ kin G.T.g hmg
  have em : (ts.map fun t => t.2).map (fun p => p.2) = ts.map fun t => t.2.2 := by rw [List.map_map]; rfl
  refine endT (cs := ts.map fun t => t.2) kin G.T.g G.T.b G.T.builtins G.T.nolimit hg (fun p hp => ?_) G.T.bmain hobj hints (Nat.le_trans hlen hn2) hr (fun b h1 h2 h3 => hF b h1 h2 fun t ht => h3 _ (List.mem_map.mpr ⟨t, ht, rfl⟩)) hb fun H hO hT hS => ?_
  · obtain ⟨t, ht, rfl⟩ := List.mem_map.mp hp
    obtain ⟨r, ⟨fa', o1, fd1, m1, k1, d1, c1⟩, tt⟩ := hts t ht
    obtain ⟨dL, hm, hnm⟩ := List.any_eq_true.mp r
    obtain ⟨a', o', fd', c', P', h1, h2, h3, h4, h5, h6⟩ := G.T.tab dL hm
    rw [show dL.name = t.1 from beq_iff_eq.mp hnm, m1] at h1
    cases h1
    have g1 := kin _ _ k1
    rw [g1] at h2
    cases h2
    rw [d1] at h3
    cases h3
    rw [c1] at h4
    cases h4
    obtain ⟨e1, e2⟩ := tabIn_ok kin tt h6
    subst e1
    exact ⟨h5, h6, e2⟩
  · rw [em] at hO hT
    exact hsp _ _ H a ns hlen hO hT hS
theorem Scr.ofT {K : PySem.W.Frag} {L : List Addr} {H : Hp} {a : Addr} {xs : List V} (o : OnlyT L H) (h : SqL K H a xs) : Scr K H a xs := by
  rcases h with (h | h) | h
  · rcases o a with z | ⟨_, z⟩ | ⟨ob, ys, z⟩
    · exact nomatch z.symm.trans h
    · exact nomatch z.symm.trans h
    · exact nomatch z.symm.trans h
  · exact .inl h
  · exact .inr h
theorem Scr.kt {K : PySem.W.Frag} {L : List Addr} {H H' : Hp} {a : Addr} {xs : List V} (h : Scr K H a xs) (ht : Tabs L H) (k : KT L H H') : Scr K H' a xs :=
  h.elim (fun ⟨o, e⟩ => .inl ⟨o, k.k _ _ (ht.nin e fun ps z => nomatch z) e⟩) .inr
theorem Tup.kt {L : List Addr} {H H' : Hp} {a : Addr} {xs : List V} (h : Tup H a xs) (ht : Tabs L H) (k : KT L H H') : Tup H' a xs := h.keep k.k (ht.noTup _ _ h)
end Wg

/-! Wagon, part 32: a text times a number, list of a text, upper; signs. -/
namespace Wg
open PySem PySem.Spec PyProof.Rows L2
section
variable {X : Cx}
/-- text * number -/
def uMulS : R2 := fun x y H Q => ∃ (z : Str) (n : Int), x = .str z ∧ y = .int n ∧ 2 ≤ n ∧ n ≤ 100000 ∧ z.length ≠ 0 ∧ z.length * n.toNat ≤ 1000000 ∧ Q (.str ⟨(List.replicate n.toNat z.cps).foldl (· ++ ·) #[]⟩) H
theorem op_uMulS : OpR X (binaryOp .Mult) uMulS := by
  intro pins s σ H x y v u Q I rx ry h
  obtain ⟨z, n, rfl, rfl, h1, h2, h3, h4, q⟩ := h
  obtain ⟨t, rfl⟩ := rx
  obtain ⟨t', rfl⟩ := ry
  have nn : ¬ n < 1 := by omega
  have n1 : (n == 1 || z.length == 0) = false := by
    rw [Bool.or_eq_false_iff]
    exact ⟨beq_false_of_ne (by omega), beq_false_of_ne h3⟩
  have tl : Builtin.Str.tooLong (z.length * n.toNat) = false := by
    unfold Builtin.Str.tooLong
    exact decide_eq_false (Nat.not_lt.mpr (len_le h4))
  refine PySem.P.mul_str ?_ (fun _ _ => ?_) (fun _ _ => tl) ?_
  · rw [decide_eq_false (by omega), decide_eq_false (by omega)]
    rfl
  · have : z.length ≤ 1000000 := Nat.le_trans (Nat.le_mul_of_pos_right _ (by omega)) h4
    have e : (92233720368547 : Int) ≤ (2 ^ 63 - 1) / n := by
      rw [Int.le_ediv_iff_mul_le (by omega)]
      omega
    omega
  · rw [if_neg nn, if_neg (by rw [n1]; exact Bool.false_ne_true)]
    refine ⟨?_, ⟨.str _, H, I.tok _, ⟨_, rfl⟩, q⟩⟩
    exact PySem.fits_reps tl
def uUpper : V → List V → Hp → VK → Prop := fun x xs H Q => ∃ a, x = .str a ∧ xs = [] ∧ a.length ≤ 5592405 ∧ Q (.str (Txt.upper a)) H
theorem pe_uUpper {o : Expr} {to : TE} {apos pos : Pos} (ho : PE X o to) (hbase : attributeBase o "upper" X.env (eval o X.env) = eval o X.env := by rfl) (hline : (apos.endLine == pos.line) = true := by rfl) :
    PE X (.Call (.Attribute o "upper" apos) [] [] pos) (tM0 uUpper to) := pe_upper ho hbase hline
/-- list(text) -/
def uListZ : List V → Hp → VK → Prop := fun xs H Q => ∃ z : Str, xs = [.str z] ∧ z.length ≤ 1000000 ∧ Mk H (.lst (z.cps.toList.map fun c => .str ⟨#[c]⟩)) Q
theorem call_uListZ (hc : X.calm = true) : CallR X (.type "list") uListZ := by
  intro pins s σ H xs us Q I r h
  obtain ⟨z, rfl, hz, q⟩ := h
  obtain ⟨u, rfl, rx⟩ := vals1 r
  obtain ⟨t, rfl⟩ := rx
  refine call_list_str (I.ok.hd hc) z t (fun h' tk acc c' hk e hi => ?_) (len_le hz)
  have hl : (z.cps.toList.map fun c => V.str ⟨#[c]⟩).length = acc.toList.length := by
    rw [List.length_map, Array.length_toList, Array.length_toList]
    exact hi.1.symm
  refine ⟨.ref s.heap.objs.size, upd H s.heap.objs.size (.lst (z.cps.toList.map fun c => .str ⟨#[c]⟩)), I.laid hk (Nat.le_refl _) ⟨by rw [List.length_map, Array.length_toList]; exact len_le hz, acc.toList, c', ?_, by rw [Array.toArray_toList]; exact e⟩, rfl, q.at _ (I.hok.fresh (Nat.le_refl _))⟩
  refine vals_of_idx _ _ hl.symm fun j u hj => ?_
  obtain ⟨c, t', hc, rfl⟩ := hi.2 j u (by rw [← Array.getElem?_toList]; exact hj)
  refine ⟨.str ⟨#[c]⟩, ?_, ⟨_, rfl⟩⟩
  rw [List.getElem?_map, Array.getElem?_toList, hc]
  rfl
end
end Wg

/-! Wagon, part 33: f-strings, partition, int(text), texts cut, == of texts. -/
namespace Wg
open PySem PySem.Spec PyProof.Rows L2 PySem.W
open Builtin Builtin.Str Builtin.Int
/-- a number below a hundred by two figures -/
def two (n : Nat) : Str := ⟨#[48 + n / 10, 48 + n % 10]⟩
section
variable {prog : Program} {w : World} {A : Around} {E : Value → Shared → Prop} {s : Shared}
theorem field_02 {n : Nat} (hn : n < 60) {t : Tok} {Q : Value → Shared → Prop} (h : ∀ t' k, Q (.str (two n) t') { s with toks := k }) : wpAny (model prog w) A (formatField (.int (n : Nat) t) "02d") Q E s := by
  have c : n = 0 ∨ n = 1 ∨ n = 2 ∨ n = 3 ∨ n = 4 ∨ n = 5 ∨ n = 6 ∨ n = 7 ∨ n = 8 ∨ n = 9 ∨ n = 10 ∨ n = 11 ∨ n = 12 ∨ n = 13 ∨ n = 14 ∨ n = 15 ∨ n = 16 ∨ n = 17 ∨ n = 18 ∨ n = 19 ∨ n = 20 ∨ n = 21 ∨ n = 22 ∨ n = 23 ∨ n = 24 ∨ n = 25 ∨ n = 26 ∨ n = 27 ∨ n = 28 ∨ n = 29 ∨ n = 30 ∨ n = 31 ∨ n = 32 ∨ n = 33 ∨ n = 34 ∨ n = 35 ∨ n = 36 ∨ n = 37 ∨ n = 38 ∨ n = 39 ∨ n = 40 ∨ n = 41 ∨ n = 42 ∨ n = 43 ∨ n = 44 ∨ n = 45 ∨ n = 46 ∨ n = 47 ∨ n = 48 ∨ n = 49 ∨ n = 50 ∨ n = 51 ∨ n = 52 ∨ n = 53 ∨ n = 54 ∨ n = 55 ∨ n = 56 ∨ n = 57 ∨ n = 58 ∨ n = 59 := by omega
  rcases c with rfl | rfl | rfl | rfl | rfl | rfl | rfl | rfl | rfl | rfl | rfl | rfl | rfl | rfl | rfl | rfl | rfl | rfl | rfl | rfl | rfl | rfl | rfl | rfl | rfl | rfl | rfl | rfl | rfl | rfl | rfl | rfl | rfl | rfl | rfl | rfl | rfl | rfl | rfl | rfl | rfl | rfl | rfl | rfl | rfl | rfl | rfl | rfl | rfl | rfl | rfl | rfl | rfl | rfl | rfl | rfl | rfl | rfl | rfl | rfl
  all_goals (refine KXf.field_int (spec' := "02d") rfl (by decide +kernel) (by decide +kernel) ?_ h; kxf_run_i)
end
section
variable {X : Cx}
/-- {x:02d} of a number below sixty -/
def tFmt02 (te : TE) : TE := fun σ H Q => te σ H fun x H1 => ∃ n : Nat, x = .int (n : Nat) ∧ n < 60 ∧ Q (.str (two n)) H1
theorem pe_fmt02 {e sp : Expr} {te : TE} {pos : Pos} (he : PE X e te) (hs : PE X sp (tC (.str "02d"))) : PE X (.FormattedValue e (-1) (some sp) pos) (tFmt02 te) := by
  refine ⟨fun pins s σ H Q I h => ?_⟩
  refine wpAny_FormattedValue_spec (thn (he.run pins s σ H _ I h) fun v s1 hv => ?_)
  obtain ⟨x, H1, I1, r1, n, rfl, hn, q⟩ := hv
  obtain ⟨t, rfl⟩ := r1
  refine thn (hs.run pins s1 σ H1 (fun x H2 => x = .str "02d" ∧ H2 = H1) I1 ⟨rfl, rfl⟩) fun r s2 hr => ?_
  obtain ⟨y, H2, I2, r2, rfl, rfl⟩ := hr
  obtain ⟨t2, rfl⟩ := r2
  exact ⟨_, _, rfl, field_02 hn fun t' k => ⟨.str (two n), H2, I2.tok _, ⟨_, rfl⟩, q⟩⟩
def tJoined (ts : List TE) : TE := fun σ H Q => tJs ts Str.empty σ H fun out H1 => Q (.str out) H1
theorem pe_joinedU {v1 v2 : Expr} {rest : List Expr} {ts : List TE} {pos : Pos} (h : PJ X (v1 :: v2 :: rest) ts) : PE X (.JoinedStr (v1 :: v2 :: rest) pos) (tJoined ts) := pe_joined h
/-- partition -/
def uPartition : V → List V → Hp → VK → Prop := fun x xs H Q => ∃ a b, x = .str a ∧ xs = [.str b] ∧ (b.length == 0) = false ∧ a.length ≤ sizeLine ∧
  ∀ p, H p = none → Q (.ref p) (upd H p (.tup [.str (Txt.partition a b).1, .str (Txt.partition a b).2.1, .str (Txt.partition a b).2.2]))
theorem pe_uPartition {o e : Expr} {to te : TE} {apos pos : Pos} (ho : PE X o to) (he : PE X e te) (hs : starEach [e] X.env = [(false, eval e X.env)] := by rfl) (hbase : attributeBase o "partition" X.env (eval o X.env) = eval o X.env := by rfl) (hline : (apos.endLine == pos.line) = true := by rfl) :
    PE X (.Call (.Attribute o "partition" apos) [e] [] pos) (tM1 uPartition to te) := pe_partition ho he hs hbase hline
/-- int(text) -/
def uIntS : List V → Hp → VK → Prop := fun xs H Q => ∃ a n, xs = [.str a] ∧ PySem.intText? a = some n ∧ a.length ≤ 640 ∧ Q (.int n) H
theorem call_uIntS : CallR X (.type "int") uIntS := call_int_str
end
end Wg

/-! Wagon, part 34: divmod. -/
namespace Wg
open PySem PySem.Spec PyProof.Rows L2
def uDivmod : List V → Hp → VK → Prop := fun xs H Q => ∃ i j, xs = [.int i, .int j] ∧ CDiv i j ∧ ∀ p, H p = none → Q (.ref p) (upd H p (.tup [.int (i / j), .int (i % j)]))
theorem call_uDivmod {X : Cx} : CallR X (.builtin "divmod") uDivmod := call_divmod
end Wg

/-! Wagon, part 35: < of texts. -/
namespace Wg
open PySem PySem.Spec PyProof.Rows L2
def uLtS : V → V → Hp → VK → Prop := fun x y H Q => ∃ i j, x = .str i ∧ y = .str j ∧ Q (.bl (decide (i.cps.toList < j.cps.toList))) H
theorem op_uLtS {X : Cx} : OpR X (compareOp .Lt) uLtS := op_lt_str
end Wg

/-! Wagon, part 36: repr of a tuple of data in which empty dicts may stand, at any depth. -/
namespace Wg
open PySem PySem.Spec PyProof.Rows L2
mutual
/-- data whose lists are the law's own, with empty dicts -/
inductive Dq (K : PySem.W.Frag) (H : Hp) : V → PyData → Prop
  | dp {v : V} {d : PyData} : Dp K H v d → Dq K H v d
  | lst {a : Addr} {xs : List V} {ds : List PyData} : H a = some (.lst xs) → DqAll K H xs ds → Dq K H (.ref a) (.list ds)
  | tup {a : Addr} {xs : List V} {ds : List PyData} : Tup H a xs → DqAll K H xs ds → Dq K H (.ref a) (.tuple ds)
  | dic {a : Addr} : H a = some (.dK []) → Dq K H (.ref a) (.dict [])
inductive DqAll (K : PySem.W.Frag) (H : Hp) : List V → List PyData → Prop
  | nil : DqAll K H [] []
  | cons {v : V} {vs : List V} {d : PyData} {ds : List PyData} : Dq K H v d → DqAll K H vs ds → DqAll K H (v :: vs) (d :: ds)
end
/-- what the heap tells of one value, of a row of them -/
structure Told (P : Program) (w : World) (h : Heap) (v : Value) (d : PyData) : Prop where
  r : ∃ as, Reads h v d as
  k : d.showable = true → d.shown.length ≤ sizeLine → ∃ bs, ReadAtMost h d.depth bs ∧ ReprK P w bs h d.depth v d.shown
structure ToldAll (P : Program) (w : World) (h : Heap) (vs : List Value) (ds : List PyData) : Prop where
  r : ∃ as, ReadsAll h vs ds as
  k : PyData.showableAll ds = true → (∀ t ∈ PyData.shownAll ds, t.length ≤ sizeLine) → ∃ bs, ReadAtMost h (PyData.depthAll ds) bs ∧ ReprAllK P w bs h (PyData.depthAll ds) vs (PyData.shownAll ds)
section
variable {P : Program} {w : World} {h : Heap}
theorem ToldAll.none : ToldAll P w h [] [] := ⟨⟨_, .nil⟩, fun _ _ => ⟨[], (fun _ z => nomatch z), by simp only [PyData.shownAll]; exact .nil⟩⟩
theorem ToldAll.more {v : Value} {vs : List Value} {d : PyData} {ds : List PyData} (a : Told P w h v d) (b : ToldAll P w h vs ds) : ToldAll P w h (v :: vs) (d :: ds) := by
  obtain ⟨as, ra⟩ := a.r
  obtain ⟨bs, rb⟩ := b.r
  refine ⟨⟨_, .cons ra rb⟩, fun hs hz => ?_⟩
  rw [show PyData.showableAll (d :: ds) = (d.showable && PyData.showableAll ds) by simp only [PyData.showableAll], Bool.and_eq_true] at hs
  have es : PyData.shownAll (d :: ds) = d.shown :: PyData.shownAll ds := by simp only [PyData.shownAll]
  have ed : PyData.depthAll (d :: ds) = max d.depth (PyData.depthAll ds) := by simp only [PyData.depthAll]
  rw [es] at hz ⊢
  rw [ed]
  obtain ⟨x, hx, kx⟩ := a.k hs.1 (hz _ List.mem_cons_self)
  obtain ⟨y, hy, ky⟩ := b.k hs.2 fun t ht => hz t (List.mem_cons_of_mem _ ht)
  exact ⟨x ++ y, (hx.mono (Nat.le_max_left _ _)).append (hy.mono (Nat.le_max_right _ _)), .cons ((kx.more fun b hb => List.mem_append_left _ hb).level_le (Nat.le_max_left _ _)) (ky.more_le (fun b hb => List.mem_append_right _ hb) (Nat.le_max_right _ _))⟩
theorem Told.list {a : Addr} {o : Obj} {n : Nat} {its : List Value} {ds : List PyData} (e : h.get? a = some o) (c : o.cls = .type "list") (dd : o.data = .seq its.toArray n) (t : ToldAll P w h its ds) : Told P w h (.ref a) (.list ds) := by
  obtain ⟨as, ra⟩ := t.r
  have r : Reads h (.ref a) (.list ds) (a :: as) := .list e c dd ra
  refine ⟨⟨_, r⟩, fun hs hz => ?_⟩
  have eD : (PyData.list ds).depth = PyData.depthAll ds + 1 := by simp only [PyData.depth]
  have eS : (PyData.list ds).shown = listText (PyData.shownAll ds) := by simp only [PyData.shown]
  rw [eS] at hz ⊢
  obtain ⟨bs, hb, hk⟩ := t.k (by simpa only [PyData.showable] using hs) fun x hx => Nat.le_trans (listText_mem_le hx) hz
  have hna : a ∉ bs := not_mem_of_deeper r (by rw [eD]; omega) hb
  refine ⟨a :: bs, ReadAtMost.cons r (by rw [eD]; omega) hb, ?_⟩
  rw [eD]
  cases its with
  | nil =>
    cases ra
    rw [show PyData.shownAll [] = [] by simp only [PyData.shownAll], listText_nil]
    exact ReprK.listEmpty e c dd
  | cons x l => exact ReprK.list e c dd hna (by simpa using hk.length_eq) fun i y q => hk.item i y (by simpa using q)
theorem Told.tuple {a : Addr} {o : Obj} {n : Nat} {its : List Value} {ds : List PyData} (e : h.get? a = some o) (c : o.cls = .type "tuple") (dd : o.data = .seq its.toArray n) (t : ToldAll P w h its ds) : Told P w h (.ref a) (.tuple ds) := by
  obtain ⟨as, ra⟩ := t.r
  have r : Reads h (.ref a) (.tuple ds) as := .tuple e c dd ra
  refine ⟨⟨_, r⟩, fun hs hz => ?_⟩
  have eD : (PyData.tuple ds).depth = PyData.depthAll ds + 1 := by simp only [PyData.depth]
  have eS : (PyData.tuple ds).shown = tupleText (PyData.shownAll ds) := by simp only [PyData.shown]
  rw [eS] at hz ⊢
  obtain ⟨bs, hb, hk⟩ := t.k (by simpa only [PyData.showable] using hs) fun x hx => Nat.le_trans (tupleText_mem_le hx) hz
  have hna : a ∉ bs := not_mem_of_deeper r (by rw [eD]; omega) hb
  refine ⟨a :: bs, ReadAtMost.cons r (by rw [eD]; omega) hb, ?_⟩
  rw [eD]
  exact ReprK.tuple e c dd hna hk
end
section
variable {X : Cx} {pins : List (Addr × Obj)} {σ : L2.St} {H : Hp} {s : Shared}
theorem told_dp (I : Inv X pins σ H s) {v : V} {d : PyData} {u : Value} (h : Dp X.K H v d) (r : RelV v u) : Told X.prog X.w s.heap u d := by
  obtain ⟨as, rd⟩ := Dp.reads I d v u h r
  exact ⟨⟨_, rd⟩, fun hs hz => ReprK.of_reads rd hs (PyData.noDict_hsm (dp_noDict h)) hz⟩
theorem told_dic (I : Inv X pins σ H s) {a : Addr} (h : H a = some (.dK [])) : Told X.prog X.w s.heap (.ref a) (.dict []) := by
  obtain ⟨z, hsy, ws, kv, o, es, ep, ho, ex, hdat, _, hp, _⟩ := I.hok a _ h
  obtain ⟨r1, r2⟩ := pairs_reads (K := X.K) I hp kv (ds := []) .nil
  have rd : Reads s.heap (.ref a) (PyData.dict []) (a :: [] ++ []) := .dict ho ex.1 hdat r1 r2
  refine ⟨⟨_, rd⟩, fun hs hz => ReprK.of_reads rd hs (fun _ hm => ?_) hz⟩
  have e : sysModules = a := by simpa using hm
  rw [e] at hsy
  simp at hsy
mutual
theorem Dq.told (I : Inv X pins σ H s) : ∀ (d : PyData) (v : V) (u : Value), Dq X.K H v d → RelV v u → Told X.prog X.w s.heap u d
  | .list ds, _, _, h, r => by
    cases h with
    | dp h => exact told_dp I h r
    | lst hs ha =>
      cases r
      obtain ⟨its, rv, ⟨o, n, ho, hc, _, hd⟩, _⟩ := I.list (lst_sq (K := X.K) hs)
      exact Told.list ho hc hd (DqAll.told I ds _ its ha rv)
  | .tuple ds, _, _, h, r => by
    cases h with
    | dp h => exact told_dp I h r
    | tup hs ha =>
      cases r
      obtain ⟨its, n, rv, _, ho⟩ := hs.obj I
      exact Told.tuple ho rfl rfl (DqAll.told I ds _ its ha rv)
  | .dict _, _, _, h, r => by
    cases h with
    | dp h => exact told_dp I h r
    | dic e => cases r; exact told_dic I e
  | .none, _, _, h, r => by cases h with | dp h => exact told_dp I h r
  | .bool _, _, _, h, r => by cases h with | dp h => exact told_dp I h r
  | .int _, _, _, h, r => by cases h with | dp h => exact told_dp I h r
  | .str _, _, _, h, r => by cases h with | dp h => exact told_dp I h r
theorem DqAll.told (I : Inv X pins σ H s) : ∀ (ds : List PyData) (vs : List V) (us : List Value), DqAll X.K H vs ds → Vals vs us → ToldAll X.prog X.w s.heap us ds
  | [], _, _, h, r => by
    cases h
    cases r
    exact ToldAll.none
  | d :: ds, _, _, h, r => by
    cases h with
    | cons h1 h2 =>
      cases r with
      | cons r1 r2 => exact ToldAll.more (Dq.told I d _ _ h1 r1) (DqAll.told I ds _ _ h2 r2)
end
end
/-- repr of a tuple of such data -/
def uReprQ (K : PySem.W.Frag) : List V → Hp → VK → Prop := fun xs H Q => ∃ (a : Addr) (vs : List V) (ds : List PyData), xs = [.ref a] ∧ Tup H a vs ∧ DqAll K H vs ds ∧ fine (.tuple ds) ∧ (PyData.tuple ds).depth ≤ 100 ∧ cost (.tuple ds) ≤ 10000000 ∧ Q (.str (PyData.tuple ds).shown) H
theorem call_uReprQ {X : Cx} (hr : Rm 1 X.A) : CallR X (.builtin "repr") (uReprQ X.K) := by
  intro pins s σ H xs us Q I r h
  obtain ⟨a, vs, ds, rfl, ht, hd, hf, hdep, hz, q⟩ := h
  obtain ⟨u, rfl, rx⟩ := vals1 r
  cases rx
  obtain ⟨its, n, rv, _, ho⟩ := ht.obj I
  have t := DqAll.told I ds _ its hd rv
  have hu : X.A.units + ((PyData.tuple ds).depth + 1) < cLine := by
    have := hr.rm.un
    omega
  have eS : (PyData.tuple ds).shown = tupleText (PyData.shownAll ds) := by simp only [PyData.shown]
  have eD : (PyData.tuple ds).depth = PyData.depthAll ds + 1 := by simp only [PyData.depth]
  have hs := fine_show hf
  have hz' : (PyData.tuple ds).shown.length ≤ sizeLine := Nat.le_trans (shown_le hf) (line_big hz)
  rw [eS] at hz'
  obtain ⟨as, ra⟩ := t.r
  obtain ⟨bs, hb, hk⟩ := t.k (by simpa only [PyData.showable] using hs) fun x hx => Nat.le_trans (tupleText_mem_le hx) hz'
  have rr : Reads s.heap (.ref a) (.tuple ds) as := .tuple ho rfl rfl ra
  have hna : a ∉ bs := not_mem_of_deeper rr (by rw [eD]; omega) hb
  refine call_repr_slot (T := "tuple") (idr := "tuple.__repr__") (by omega) ⟨_, ho, rfl⟩ F.slot_tuple_repr (call_tuple_reprK ho rfl rfl hna hk hr.gd (fun b _ => Clear.nil b) (by show X.A.units + 1 + _ < cLine; omega) (fun _ _ e => e) (fun h' u tk hkp => ⟨_, _, rfl, ?_⟩) hz')
  rw [← eS]
  exact ⟨.str _, H, I.kept (t' := tk) hkp, ⟨_, rfl⟩, q⟩
end Wg

/-! Wagon, part 37: list.insert. -/
namespace Wg
open PySem PySem.Spec PyProof.Rows L2
def uInsert : V → List V → Hp → VK → Prop := fun x vs H Q => ∃ (l : Addr) (xs : List V) (i : Int) (y : V), x = .ref l ∧ vs = [.int i, y] ∧ H l = some (.lst xs) ∧ xs.length < sizeLine ∧ 0 ≤ i ∧ i < 2 ^ 63 ∧
  Q .non (upd H l (.lst (xs.take i.toNat ++ [y] ++ xs.drop i.toNat)))
theorem mt_uInsert {X : Cx} : MtR X "list.insert" uInsert := mt_insert
theorem g_insert {l : Addr} {xs : List V} {i : Int} {y : V} {H : Hp} {Q : VK} (h : H l = some (.lst xs)) (z : xs.length < sizeLine) (h0 : 0 ≤ i) (h1 : i < 2 ^ 63) (q : ∀ H', Keep [l] H H' → H' l = some (.lst (xs.take i.toNat ++ [y] ++ xs.drop i.toNat)) → Q .non H') : uInsert (.ref l) [.int i, y] H Q := ⟨l, xs, i, y, rfl, rfl, h, z, h0, h1, q _ Keep.set upd_same⟩
end Wg

/-! Wagon, part 38: t[::-1] of a tuple. -/
namespace Wg
open PySem PySem.Spec PyProof.Rows L2
section
variable {prog : Program} {w : World} {A : Around} {E : Value → Shared → Prop} {s : Shared}
theorem applied_rev {sl : Addr} {vl vu vs : Value} {n : Nat} {Q : Int × Int × Nat → Shared → Prop} (hs : s.heap.IsSliceOf sl vl vu vs) (pl : IsPart vl none) (pu : IsPart vu none) (ps : IsPart vs (some (-1)))
    (h : Q ((n : Int) - 1, -1, n) s) : wpAny (model prog w) A (Builtin.Slice.sliceApplied (.ref sl) (pure (n : Int))) Q E s := by
  obtain ⟨os, hos, hcs, hds⟩ := id hs
  unfold Builtin.Slice.sliceApplied Builtin.Slice.sliceFields
  refine wpAny_bind (wpAny_bind (wpAny_field hos hds (x := vl) rfl (wpAny_bind (wpAny_field hos hds (x := vu) rfl (wpAny_bind (wpAny_field hos hds (x := vs) rfl (wpAny_pure ?_)))))))
  refine wpAny_bind (HT.slicePart_ ps ?_)
  show wpAny _ _ (if ((-1 : Int) == 0) = true then _ else _) _ _ s
  rw [if_neg (by decide)]
  refine wpAny_bind (HT.slicePart_ pl (wpAny_bind (HT.slicePart_ pu (wpAny_bind (wpAny_pure ?_)))))
  show wpAny _ _ (pure ((n : Int) - 1, (-1 : Int), Builtin.Slice.slicePlaces ((n : Int) - 1) (-1) (-1))) _ _ s
  have e : Builtin.Slice.slicePlaces ((n : Int) - 1) (-1) (-1) = n := by
    unfold Builtin.Slice.slicePlaces
    rw [if_neg (by decide)]
    by_cases hn : (n : Int) - 1 > -1
    · rw [if_pos hn, show (- -1 : Int) = 1 by decide, Int.ediv_one]
      omega
    · rw [if_neg hn]
      omega
  rw [e]
  exact wpAny_pure h
theorem pick_rev (xs : Array Value) : ((List.range xs.size).filterMap fun (m : Nat) => xs[((xs.size : Int) - 1 + (m : Int) * (-1)).toNat]?).toArray = xs.toList.reverse.toArray := by
  have e : (List.range xs.size).filterMap (fun (m : Nat) => xs[((xs.size : Int) - 1 + (m : Int) * (-1)).toNat]?) = ((List.range xs.size).map fun k => xs.size - 1 - k).filterMap (xs[·]?) := by
    rw [List.filterMap_map]
    refine congrArg (fun f => List.filterMap f _) ?_
    funext m
    show xs[_]? = xs[xs.size - 1 - m]?
    have : ((xs.size : Int) - 1 + (m : Int) * (-1)).toNat = xs.size - 1 - m := by omega
    rw [this]
  rw [e, PySem.W.krv_range, List.filterMap_reverse, PySem.W.krv_all]
theorem rev_tuple {t sl : Addr} {items : Array Value} {vl vu vs : Value} {Q : Value → Shared → Prop} (ht : IsTup s.heap t items) (hs : s.heap.IsSliceOf sl vl vu vs) (pl : IsPart vl none) (pu : IsPart vu none) (ps : IsPart vs (some (-1)))
    (h : Q (.ref s.heap.objs.size) { s with heap := s.heap.push { cls := .type "tuple", data := .seq items.toList.reverse.toArray } })
    (hsz : items.size ≤ sizeLine) : wpAny (model prog w) A (getItem (.ref t) (.ref sl)) Q E s := by
  have htake : sizeOk (.seq items.toList.reverse.toArray) := by
    show items.toList.reverse.toArray.size ≤ sizeLine
    rw [List.size_toArray, List.length_reverse, Array.length_toList]
    omega
  obtain ⟨os, hos, hcs, hds⟩ := id hs
  have hTs : s.TypeIs (.ref sl) "slice" := ⟨os, hos, hcs⟩
  unfold getItem
  try with_reducible refine wpAny_holding ?_
  first | refine wpAny_bind (wpAny_pure ?_) | skip
  refine wpAny_bind (wpAny_sequenceKey ht.typeIs (by decide) ?_)
  refine wpAny_bind (wpAny_callSpecial?_slot (name := Str.ofString "__getitem__") ht.typeIs PyProof.Rows.slot_tuple_getitem
    (wpAny_call_entry PyProof.Rows.slot_tuple_getitem ht.typeIs entry_tuple_getitem ?_ (args_tuple_getitem _ _)))
  show wpAny _ _ (Builtin.Tuple.tupleItemsOf (.ref t) >>= _) _ _ s
  refine wpAny_bind (tupleItemsOf_ ht ?_)
  refine wpAny_bind (wpAny_typeOf hTs ?_)
  rw [if_pos (by decide)]
  refine wpAny_bind (applied_rev (n := items.size) hs pl pu ps ?_)
  have hno : ¬ ((((items.size : Int) - 1) == 0 && (-1 : Int) == 1 && items.size == items.size) = true) := by
    rw [show ((-1 : Int) == 1) = false by decide, Bool.and_false, Bool.false_and]
    exact Bool.false_ne_true
  show wpAny _ _ (if (((items.size : Int) - 1) == 0 && (-1 : Int) == 1 && items.size == items.size) = true then _ else _) _ _ s
  rw [if_neg hno, pick_rev]
  first
    | exact wpAny_bind (m := Builtin.Tuple.tupleExact _) (wpAny_newObj_type (wpAny_pure ⟨_, rfl, wpAny_pure h⟩) htake)
    | exact wpAny_bind (m := Builtin.Tuple.tupleExact _) (wpAny_newObj_type (wpAny_bind (wpAny_pure (wpAny_pure ⟨_, rfl, wpAny_pure h⟩))) htake)
    | exact wpAny_bind (wpAny_bind (m := Builtin.Tuple.tupleExact _) (wpAny_newObj_type (wpAny_pure (wpAny_pure ⟨_, rfl, wpAny_pure h⟩)) htake))
    | exact wpAny_bind (wpAny_bind (m := Builtin.Tuple.tupleExact _) (wpAny_newObj_type (wpAny_pure ⟨_, rfl, wpAny_pure h⟩) htake))
end
section
variable {X : Cx}
/-- xs[::-1], of a list or a tuple -/
def tRevT (K : PySem.W.Frag) (te : TE) : TE := fun σ H Q => te σ H fun x H1 => ∃ a xs, x = .ref a ∧ Tup H1 a xs ∧ Mt H1 xs.reverse Q
theorem pe_revT {e : Expr} {te : TE} {k : Nat} {p1 p2 p3 pos : Pos} (he : PE X e te) : PE X (.Subscript e (.Slice none none (some (.UnaryOp .USub (.Constant (.int 1) k p1) p2)) p3) pos) (tRevT X.K te) := by
  refine ⟨fun pins s σ H Q I h => ?_⟩
  refine Subscript_ (thn (he.run pins s σ H _ I h) fun v s1 ⟨x, H1, I1, r1, q1⟩ => ?_)
  obtain ⟨a, xs, ex, hx, q⟩ := q1
  subst ex
  cases r1
  have hst : PO X (some (.UnaryOp .USub (.Constant (.int 1) k p1) p2)) (tPart (tUn (rU fun i => .int (-i)) (tC (.int 1)))) := po_some (pe_un un_neg pe_int)
  refine wpAny_Slice (thn (po_none.run pins s1 σ H1 (fun o H2 => o = none ∧ H2 = H1) I1 ⟨rfl, rfl⟩) fun vl s2 ⟨l, H2, I2, pl, el, e2⟩ => ?_)
  subst el e2
  refine thn (po_none.run pins s2 σ H2 (fun o H3 => o = none ∧ H3 = H2) I2 ⟨rfl, rfl⟩) fun vu s3 ⟨u, H3, I3, pu, eu, e3⟩ => ?_
  subst eu e3
  refine thn (hst.run pins s3 σ H3 (fun o H4 => o = some (-1) ∧ H4 = H3) I3 ⟨1, rfl, -1, rfl, rfl, rfl⟩) fun vs s4 ⟨o, H4, I4, ps, eo, e4⟩ => ?_
  subst eo e4
  have I5 : Inv X pins σ H4 { s4 with heap := s4.heap.push { cls := .type "slice", data := .fields #[vl, vu, vs] } } := I4.kept (t' := s4.toks) fun b ob q => Heap.get?_push_of_some _ q
  obtain ⟨its, r, ht, hz⟩ := I5.tuple hx.sq
  have hlen := r.length
  show wpAny (model X.prog X.w) X.A (subscriptTail e (.Slice none none (some (.UnaryOp .USub (.Constant (.int 1) k p1) p2)) p3) (.ref a) (.ref s4.heap.objs.size)) (EP X pins σ Q) X.xe { s4 with heap := s4.heap.push { cls := .type "slice", data := .fields #[vl, vu, vs] } }
  refine tail_any (ops := [.ref a, .ref s4.heap.objs.size]) ht.typeIs (PyProof.Rows.slot_tuple_getitem.lookup) ?_ (by with_unfolding_all rfl)
  refine rev_tuple ht (Heap.IsSliceOf.new _ vl vu vs) pl pu ps ?_ (by rw [List.size_toArray]; omega)
  exact mt_end (t' := s4.toks) I5 r.reverse (by rw [List.length_reverse]; exact hz) q
end
theorem g_revT {K : PySem.W.Frag} {te : TE} {σ : L2.St} {H : Hp} {Q : VK} : tRevT K te σ H Q ↔ te σ H fun x H1 => ∃ a xs, x = .ref a ∧ Tup H1 a xs ∧ Mt H1 xs.reverse Q := Iff.rfl
end Wg

/-! Wagon, part 39: len(set(t)) of a tuple of texts, some perhaps told twice. -/
namespace Wg
open PySem PySem.Spec PyProof.Rows L2
/-- how many unlike ones stand among the first i -/
def cntD {K : Type} [DecidableEq K] (ks : List K) : Nat → Nat
  | 0 => 0
  | i + 1 => match ks[i]? with
    | some k => if k ∈ ks.take i then cntD ks i else cntD ks i + 1
    | none => cntD ks i
theorem cntD_succ {K : Type} [DecidableEq K] {ks : List K} {i : Nat} {k : K} (e : ks[i]? = some k) : cntD ks (i + 1) = if k ∈ ks.take i then cntD ks i else cntD ks i + 1 := by
  show (match ks[i]? with | some k => if k ∈ ks.take i then cntD ks i else cntD ks i + 1 | none => cntD ks i) = _
  rw [e]
theorem cntD_le {K : Type} [DecidableEq K] (ks : List K) : ∀ i, cntD ks i ≤ i
  | 0 => Nat.le_refl _
  | i + 1 => by
    have := cntD_le ks i
    unfold cntD
    split
    · split <;> omega
    · omega
theorem cntD_full {K : Type} [DecidableEq K] (ks : List K) : ∀ i, i ≤ ks.length → (cntD ks i = i ↔ (ks.take i).Nodup)
  | 0, _ => by simp [cntD]
  | i + 1, h => by
    have ih := cntD_full ks i (by omega)
    have le := cntD_le ks i
    have e : ks[i]? = some ks[i] := List.getElem?_eq_getElem (by omega)
    have tk : ks.take (i + 1) = ks.take i ++ [ks[i]] := by rw [List.take_succ, e]; rfl
    rw [tk, List.nodup_append]
    unfold cntD
    rw [e]
    dsimp only
    split
    · rename_i hm
      constructor
      · intro z; omega
      · intro z; exact (z.2.2 _ hm _ (List.mem_singleton.mpr rfl) rfl).elim
    · rename_i hm
      constructor
      · intro z
        refine ⟨ih.mp (by omega), by simp, fun a ha b hb c => ?_⟩
        rw [List.mem_singleton.mp hb] at c
        exact hm (c ▸ ha)
      · intro z
        have := ih.mpr z.1
        omega
section
variable {P : Program} {w : World} {A : Around} {R : Result → Shared → Prop} {it : Addr} {near own : List Addr} {G : Array GenState → Array GenState → Prop} {n : Nat} {Pv : Nat → Value → Prop} {St : Nat → Shared → Prop}
variable {K : Type} [DecidableEq K] [BEq K] [LawfulBEq K] {kd : KeyKind P w K}
/-- what set.update does over what walks through keys of one kind -/
theorem put_any (W : WalksS P w A.in1 it near own G n Pv St) {c : Addr} (hc : c ∉ near) {ks : List K} (hl : ks.length = n) (few : n + 1 < scanBound)
    (hv : ∀ i v, Pv i v → ∃ h : i < ks.length, kd.is ks[i] v = true ∧ v.scannable = true) :
    ∀ (m i : Nat), i + m = n → ∀ s : Shared, St i s → s.heap.SetOf kd c (fun k => decide (k ∈ ks.take i)) (cntD ks i) →
      (∀ s', Moved (c :: own) G s s' → s'.heap.SetOf kd c (fun k => decide (k ∈ ks)) (cntD ks n) → R (.ok (.ret .none)) s') →
      codeAny (model P w) A (.builtin "set.update.loop" ⟨[.ref c, .ref it], []⟩) R s := by
  have nc : c ∉ own := fun h => hc (W.sub c h)
  have up : ∀ {h h' : Heap} {S : K → Bool} {q : Nat}, h.SetOf kd c S q → (∀ o, h.get? c = some o → h'.get? c = some o) → h'.SetOf kd c S q := fun x k => by
    obtain ⟨o, es, ep, t, ho, x⟩ := x
    exact ⟨o, es, ep, t, k o ho, x⟩
  intro m
  induction m with
  | zero =>
    intro i e s st hS fin
    have e : i = n := e
    subst e
    refine codeAny_builtin PyProof.Rows.F.entry_set_update_loop ?_
    rw [Around.under_plainId PyProof.Rows.F.plain_set_update_loop]
    refine wpAny_bind (m := pyNext (.ref it)) (W.done s _ _ st fun s' mv => wpAny_pure (fin s' (mv.mono fun _ h => .tail _ h) ?_))
    have := up hS fun o ho => mv.heap c o nc ho
    have all : ks.take i = ks := by rw [← hl, List.take_length]
    simpa only [all] using this
  | succ m ih =>
    intro i e s st hS fin
    refine codeAny_builtin PyProof.Rows.F.entry_set_update_loop ?_
    rw [Around.under_plainId PyProof.Rows.F.plain_set_update_loop]
    refine wpAny_bind (m := pyNext (.ref it)) (W.item i s _ _ (by omega) st fun v s1 pv st1 mv => ?_)
    obtain ⟨hi, hk, sc⟩ := hv i v pv
    refine wpAny_bind (m := holding [v] (setAdd c v)) (wpAny_holding ?_)
    unfold setAdd
    refine wpAny_holding (wpAny_bind (kd.pyHash hk ?_))
    have cl := cntD_le ks i
    refine wpAny_setAddHashed_of (s := { s1 with toks := s1.toks + 1 }) hk sc (up hS fun o ho => mv.heap c o nc ho) (by omega) fun h2 same hS2 => ?_
    have e : ks[i]? = some ks[i] := List.getElem?_eq_getElem hi
    have hS3 : h2.SetOf kd c (fun k => decide (k ∈ ks.take (i + 1))) (cntD ks (i + 1)) := by
      refine PyProof.Rows.SetOf_congr hS2 (fun k => ?_) ?_
      · rw [List.take_succ, List.getElem?_eq_getElem hi]
        simp only [Option.toList_some, List.mem_append, List.mem_singleton, Bool.decide_or]
      · show _ = cntD ks (i + 1)
        rw [cntD_succ e]
        by_cases hm : ks[i] ∈ ks.take i
        · rw [if_pos (decide_eq_true hm), if_pos hm]
        · rw [if_neg (by rw [decide_eq_true_eq]; exact hm), if_neg hm]
    refine wpAny_pure ⟨plainId_quiet PyProof.Rows.F.plain_set_update_loop _, ih (i + 1) (by omega) _ (W.frame _ s1 _ _ st1 (Nat.le_succ _) fun b hb o ho => ?_) hS3 fun s2 mv2 hS4 => ?_⟩
    · rw [same.2 b fun x => hc (x ▸ hb)]
      exact ho
    · refine fin s2 (Moved.trans W.gtrans ((mv.mono fun _ h => .tail _ h).then_heap (Nat.le_succ _) fun b o hb ho => ?_) mv2) hS4
      rw [same.2 b fun x => hb (x ▸ .head _)]
      exact ho
end
section
variable {P : Program} {w : World} {A : Around} {E : Value → Shared → Prop} {s : Shared} {K : Type} [DecidableEq K] [BEq K] [LawfulBEq K] {kd : KeyKind P w K}
theorem set_ofT {l : Addr} {vs : Array Value} {ks : List K} {Q : Value → Shared → Prop} (hh : A.handled = none) (hl : s.heap.IsTuple l vs) (hn : ks.length = vs.size) (few : vs.size + 1 < scanBound)
    (hv : ∀ (i : Nat) (v : Value), vs[i]? = some v → ∃ h : i < ks.length, kd.is ks[i] v = true ∧ v.scannable = true)
    (q : ∀ (h : Heap) (t : Nat), h.SetOf kd s.heap.objs.size (fun k => decide (k ∈ ks)) (cntD ks vs.size) → (∀ b o, b < s.heap.objs.size → s.heap.get? b = some o → h.get? b = some o) → Q (.ref s.heap.objs.size) { s with heap := h, toks := t }) :
    wpAny (model P w) A (call (.type "set") [.ref l]) Q E s := by
  obtain ⟨cl, rest, hmro⟩ := PySem.F.called_set.mro
  have f1 := PySem.F.called_set.made
  have f2 := PySem.F.called_set.sub
  have f3 := PySem.F.called_set.notType
  have f4 := PySem.F.called_set.canCreate
  have f5 := PySem.F.typeCall_set_1 (.ref l)
  have f6 := PySem.F.called_set.init.lookup
  have f7 := PySem.F.called_set.init.bind (.ref s.heap.objs.size)
  refine wpAny_call (codeAny_of_tree ?_)
  change wpAny _ _ (callAny (.type "set") _) _ _ _
  refine wpAny_pure ⟨Code.quiet_builtin _ (by decide +kernel), codeAny_builtin PySem.F.entry_type_call ?_⟩
  rw [Around.under_plain (weight_type_call_type "set" [.ref l] []) rfl]
  repeat (any_goals (first | assumption | wp_step))
  refine codeAny_mono (code_set_new_1 (.ref l) (E := E) (Q₁ := fun r s1 => ∃ b : Bool, r = .ref s.heap.objs.size ∧ s1 = { s with heap := s.heap.push { cls := .type "set", dict := none, data := .set #[] 0 (.fresh 0 0 b) } }) fun b => ⟨b, rfl, rfl⟩) fun r s1 hr => ?_
  rcases r with x | fl
  · exact hr
  cases fl with
  | ret r =>
    obtain ⟨b, rfl, rfl⟩ := hr
    have at0 : (s.heap.push { cls := .type "set", dict := none, data := .set #[] 0 (.fresh 0 0 b) }).get? s.heap.objs.size = some { cls := .type "set", dict := none, data := .set #[] 0 (.fresh 0 0 b) } := Heap.get?_push_size _ rfl
    have ty0 : Shared.TypeIs { s with heap := s.heap.push { cls := .type "set", dict := none, data := .set #[] 0 (.fresh 0 0 b) } } (.ref s.heap.objs.size) "set" := ⟨_, at0, rfl⟩
    repeat (any_goals (first | assumption | wp_step))
    refine codeAny_mono (codeAny_call_builtin (R := wants (fun r s2 => r = .none ∧ ∃ h t, s2 = { s with heap := h, toks := t } ∧ h.SetOf kd s.heap.objs.size (fun k => decide (k ∈ ks)) (cntD ks vs.size) ∧
      ∀ b o, b < s.heap.objs.size → s.heap.get? b = some o → h.get? b = some o) E) PySem.F.called_set.init.plain PySem.F.entry_set_init (check_set_init_1 ty0 ?_)) fun r2 s2 hr2 => ?_
    · obtain ⟨⟨kc, kd1, kdat, ksl⟩, g1, g2, nl, g3⟩ := hl
      simp only at g2 g3
      subst g2 g3
      have t1 := PySem.F.sub_tuple_set
      have t2 := PySem.F.sub_tuple_frozenset
      have t3 : (Value.type "tuple" == Value.type "dict") = false := by decide
      have g4 := Heap.get?_push_of_some ({ cls := .type "set", dict := none, data := .set #[] 0 (.fresh 0 0 b) } : Obj) g1
      have here : (s.heap.push { cls := .type "set", dict := none, data := .set #[] 0 (.fresh 0 0 b) }).IsTuple l vs := ⟨_, g4, rfl, nl, rfl⟩
      have low : l < s.heap.objs.size := Heap.lt_size g1
      unfold Builtin.«set.__init__» noKeywords Builtin.Frozenset.updateFrom
      generalize hpy : pyIter = py
      wp_walk
      subst hpy
      refine wpAny_pyIter_tuple here (wpAny_bind (wpAny_runValue ?_))
      have sz : (s.heap.push { cls := .type "set", dict := none, data := .set #[] 0 (.fresh 0 0 b) }).objs.size = s.heap.objs.size + 1 := Heap.size_push _ _
      have apart : l ≠ s.heap.objs.size + 1 := Nat.ne_of_lt (Nat.lt_succ_of_lt low)
      have own : s.heap.objs.size ≠ s.heap.objs.size + 1 := Nat.ne_of_lt (Nat.lt_succ_self _)
      have quiet : A.in1.in1.in1.handled = none := by simp [hh]
      refine put_any (kd := kd) ((Walks.tuple quiet _ l (by rw [sz]; exact apart) vs).toS) (c := s.heap.objs.size) (by rw [sz]; simp only [List.mem_cons, List.not_mem_nil, or_false]; exact fun x => x.elim own (Nat.ne_of_gt low)) hn few hv vs.size 0 (by omega) _
        ⟨⟨_, Heap.get?_push_size _ rfl, rfl, rfl⟩, here.push _⟩ ?_ fun s2 mv hS => ?_
      · exact PyProof.Rows.SetOf_congr ((PyProof.Rows.setObjOf_fresh (knd := kd) b).setOf (Heap.get?_push_of_some _ at0) (by unfold scanBound; omega)) (fun k => by simp) rfl
      · obtain ⟨h2, gg, dd, tt, oo⟩ := s2
        obtain rfl : gg = s.gens := mv.gens
        obtain rfl : dd = s.drawn := mv.drawn
        obtain rfl : oo = s.os := mv.os
        refine wpAny_pure (wpAny_pure ⟨rfl, h2, tt, rfl, hS, fun a o ha ho => mv.heap a o ?_ (Heap.get?_push_of_some _ (Heap.get?_push_of_some _ ho))⟩)
        rw [sz]
        simp only [List.mem_cons, List.not_mem_nil, or_false]
        exact fun x => x.elim (Nat.ne_of_lt ha) (Nat.ne_of_lt (Nat.lt_succ_of_lt ha))
    · rcases r2 with x | f2
      · exact hr2
      cases f2 with
      | ret r =>
        obtain ⟨rfl, h, t, rfl, hS, old⟩ := hr2
        repeat (any_goals (first | assumption | wp_step))
        exact q _ _ hS old
      | _ => exact hr2.elim
  | _ => exact hr.elim
end
section
variable {X : Cx}
/-- len(set(t)), t a tuple of texts -/
def tLenTextsT (K : PySem.W.Frag) (ta : TE) : TE := fun σ H Q => ta σ H fun x H1 => ∃ (l : Addr) (xs : List Str), x = V.ref l ∧ Tup H1 l (xs.map V.str) ∧ xs.length < 64 ∧ Q (.int (cntD xs xs.length : Nat)) H1
theorem pe_lenTextsT {a : Expr} {ta : TE} {p p2 q pos : Pos} (calm : X.calm = true) (g1 : Gl X "len") (m1 : X.mg "len" = none) (g2 : Gl X "set") (m2 : X.mg "set" = none) (pa : PE X a ta)
    (each : starEach [a] X.env = (false, eval a X.env) :: starEach [] X.env := by rfl) : PE X (.Call (.Name "len" p) [.Call (.Name "set" p2) [a] [] q] [] pos) (tLenTextsT X.K ta) := by
  refine ⟨fun pins s σ H Q I h => Call_ (ld_blt I g1 m1 boot_len (PyProof.Rows.callWith_builtin1 (PyProof.Rows.args_cons ?_ rfl) rfl rfl))⟩
  refine Call_ (ld_blt I g2 m2 boot_set (PyProof.Rows.callWith_type1 (PyProof.Rows.args_cons (thn (pa.run pins s σ H _ I h) fun v s1 ⟨x, H1, J, r, hx⟩ => PyProof.Rows.args_nil ?_) each) each rfl))
  obtain ⟨l, xs, rfl, tu, few, hx⟩ := hx
  cases r
  obtain ⟨vs, rv, lv, _⟩ := J.tuple (tu.sq (K := X.K))
  have sz : xs.length = vs.toArray.size := by rw [List.size_toArray, ← rv.length, List.length_map]
  have cl := cntD_le xs xs.length
  refine set_ofT (kd := strKind X.prog X.w) (J.ok.hd calm) (show s1.heap.IsTuple l vs.toArray from lv) sz (by unfold scanBound; omega) (fun i v e => text_at rv i v (by simpa using e)) fun h2 t hS old => PyProof.Rows.args_nil ?_
  obtain ⟨o, es, ep, tb, ho, ex, hd, _, _, _, fit, hn⟩ := hS
  rw [← sz] at hn
  exact call_len_set ho ex hd fit (by rw [hn]; omega) ⟨.int (cntD xs xs.length : Nat), H1, (J.kept fun b o e => old b o (Heap.lt_size e) e).tok _, ⟨_, by rw [hn]⟩, hx⟩
end
end Wg

/-! Wagon, part 40: exceptions of own classes: raised, let out by defs, caught, asked. -/
namespace Wg
open PySem PySem.Spec PyProof.Rows L2

/-! ### calls that may let an exception out -/
section
variable {X : Cx} {CX : CXT} {k : Nat} {f : Addr} {fd : FuncData} {ps : List Str} {sp : Sp} {E : L2.St → XK} {x : Str} {p pos : Pos} {e : Expr} {es : List Expr} {t : TA}
theorem go_fnS {pins : List (Addr × Obj)} {σ : L2.St} {H : Hp} {s : Shared} {Q : VK} {us : List Value} {vs : List V}
    (F : Keeps X.prog X.w X.K X.mg X.base CX k f fd ps sp) (hr : Rm k X.A) (hb : Binds X.K fd ps []) (hx : PassesAt CX X σ (E σ))
    (I : Inv X pins σ H s) (r : Vals vs us) (h : sp vs H Q (E σ)) : wpAny (model X.prog X.w) X.A (call (.ref f) us) (EP X pins σ Q) X.xe s := by
  have hl : (us ++ []).length = ps.length := by
    rw [List.append_nil, ← r.length]
    exact F.len _ _ _ _ h
  have hbs := hb s us I.kIn hl
  rw [List.append_nil] at hbs
  have run := F.run X.A X.stack s H ⟨us, []⟩ us vs Q (E σ) hr I.env0 hbs r h
  refine wpAny_call (codeAny_mono run fun res s' hq => ?_)
  match res, hq with
  | .error e, hq => exact hx pins H s e s' I hq
  | .ok (.ret u), hq => exact I.after hq
  | .ok .next, hq => exact hq.elim
  | .ok .brk, hq => exact hq.elim
  | .ok .cont, hq => exact hq.elim
def tGoS (sp : Sp) (E : L2.St → XK) (t : TA) : TE := fun σ H Q => t σ H fun vs H1 => sp vs H1 Q (E σ)
theorem pe_goS (F : Keeps X.prog X.w X.K X.mg X.base CX k f fd ps sp) (hr : Rm k X.A) (hg : Gl X x) (hm : X.mg x = some (.ref f)) (hk : PySem.W.keepIn X.K (.ref f) = true)
    (hb : Binds X.K fd ps []) (hx : ∀ σ, PassesAt CX X σ (E σ)) (ha : PA X (e :: es) t) (hdb : (x == ("__debug__" : Str)) = false := by decide)
    (he : starEach (e :: es) X.env = (false, eval e X.env) :: starEach es X.env := by rfl) (hpl : (backTo pos (starEach es X.env)).any (·.1) = false := by rfl) :
    PE X (.Call (.Name x p) (e :: es) [] pos) (tGoS sp E t) := by
  constructor
  intro pins s σ H Q I h
  refine wpAny_Call_Name_kw (ld_glob I hg hm ?_ hdb)
  have args := ha.run pos pins s σ H _ I h
  refine PySem.W.callWith_K (h₀ := X.base) I.ok.mod.kin hk (thn args fun us s1 hh => ?_) he hpl
  obtain ⟨vs, H1, I1, r, q⟩ := hh
  exact ⟨I1.kIn, go_fnS F hr hb (hx σ) I1 r q⟩
end

/-! ### defs that may raise -/
section
variable {P : Program} {w : World} {K : PySem.W.Frag} {mg : Str → Option Value} {b : Heap}
theorem keepsX {x qual : Str} {st : Stmt} {f : Addr} {fd : FuncData} {N ps : List Str} {k : Nat} {sp : Sp} (F : Fun K x qual st f fd) (S : FnScope N ps (defScope st))
    (len : ∀ vs H Q E, sp vs H Q E → vs.length = ps.length)
    (body : ∀ (cdv : Value) (A : Around) (o : List Env) (s : Shared) (H : Hp) (vs : List V) (Q : VK) (E : XK), Rm k (A.deeper (envOfC qual (defScope st) s.heap.objs.size f cdv)) → sp vs H Q E →
      ∃ t, PSs (cxOf (L2.CX P w) P w K mg b N qual (defScope st) f cdv A o s H E) (defBody st) t ∧ t { nx := fun _ H' => Q .non H', rt := Q } (start N vs) H) :
    Keeps P w K mg b (L2.CX P w) (k + 1) f fd ps sp := keeps_of F S len body
theorem keepsTX {x qual : Str} {st : Stmt} {f c : Addr} {fd : FuncData} {N ps : List Str} {k : Nat} {sp : Sp} (F : Fun K x qual st f fd) (hc : fd.code = .ref c) (S : FnScope N ps (defScope st))
    (len : ∀ vs H Q E, sp vs H Q E → vs.length = ps.length)
    (body : ∀ (A : Around) (o : List Env) (s : Shared) (H : Hp) (vs : List V) (Q : VK) (E : XK), Rm k (A.deeper (envOfC qual (defScope st) s.heap.objs.size f (.ref c))) → sp vs H Q E →
      ∃ t, PSs (cxOf (L2.CX P w) P w K mg b N qual (defScope st) f (.ref c) A o s H E) (defBody st) t ∧ t { nx := fun _ H' => Q .non H', rt := Q } (start N vs) H) :
    Keeps P w K mg b (L2.CX P w) (k + 1) f fd ps sp := by
  obtain ⟨oc, od, kV, doc, pm, an, cdv, ct, osl, rfl, lk, hcd⟩ := F.ex
  obtain rfl : cdv = .ref c := hc
  refine ⟨len, fun A o s H g us vs Q E hr e0 hb r hsp => ?_⟩
  have hl := len _ _ _ _ hsp
  have up : ∀ {a : Addr} {ob : Obj}, b.get? a = some ob → s.heap.get? a = some ob := fun {a ob} q => (e0.bs a ob q).1
  have inK : K.In s.heap := e0.mod.kin.keeps fun _ _ q => up q
  have nolim : s.heap.NoLimit := e0.mod.nolimit.keeps fun _ _ q => up q
  have kinds : ∀ y ∈ ps.zip us, (defScope st).names.lookup y.1 = some .local ∨ ((defScope st).names.lookup y.1 = some .cell ∧ ((cellsFrom (s.heap.objs.size + 1) (defScope st).names []).lookup y.1).isSome = true) := by
    rintro ⟨n, v⟩ hy
    have hn := S.par n (List.of_mem_zip hy).1
    exact hn.imp id fun q => ⟨q, PySem.W.cellsFrom_some _ _ _ (.inl q)⟩
  have recd := PySem.W.codeRec_of inK hcd
  refine codeAny_call_function hr.rm.depth (inK _ _ lk) rfl S.co S.gen rfl recd (hb _ _ _ _ ?_)
  refine wpAny_newFunctionEnv_cells S.kind kinds ?_
  intro env he s1 y
  subst he
  refine ⟨nolim.keeps y.toInCall.keep, codeAny_func ?_⟩
  obtain ⟨t, ht, hq⟩ := body A o s H vs Q E (hr.deep _) hsp
  have I := inv_start (CX := L2.CX P w) (E := E) S hr.rm.hd e0 hl r y
  refine wpAny_mono (ht.run [] s1 (start N vs) H _ I hq) ?_ fun _ _ q => q
  intro fl s' hs
  match fl, hs with
  | .ret u, hs =>
    obtain ⟨v, σ', H', J, rv, q⟩ := hs
    exact ⟨v, H', J.os, J.bare, J.base, J.hok, rv, q⟩
  | .next, hs =>
    obtain ⟨σ', H', J, q⟩ := hs
    exact ⟨.non, H', J.os, J.bare, J.base, J.hok, rfl, q⟩
  | .brk, hs => exact hs.elim fun _ z => z.elim fun _ y => y.2.elim
  | .cont, hs => exact hs.elim fun _ z => z.elim fun _ y => y.2.elim
end

/-! ### an own class's base, named: W.__init__(self, ..) where W has none of its own -/
structure BasW (K : PySem.W.Frag) (W : Addr) : Prop where
  ga : PySem.W.specialIn K (.ref W) "__getattribute__" = some (some (.builtin "type.__getattribute__"))
  rd : PySem.W.readsIn K W (.type "type") = true
  fi : PySem.W.findCls K (.ref W) (.type "type") "__init__" = some (.val (.builtin "ValueError.__init__"))
section
variable {X : Cx} {e : Expr} {es : List Expr} {ta : TA} {p1 p2 pos : Pos} {x : Str} {W : Addr}
theorem pe_winit {pl : Sem Bool} (B : BasW X.K W) (hg : Gl X x) (hm : X.mg x = some (.ref W)) (ha : PA X (e :: es) ta)
    (hc : eval (.Call (.Attribute (.Name x p1) "__init__" p2) (e :: es) [] pos) X.env = (do
      let ov ← eval (.Name x p1) X.env
      standAt p2.atName
      let (f, first) ← holding [ov] (getMethod ov "__init__" pl)
      callWith pos f first (backTo pos (starEach (e :: es) X.env)) (backToKw pos (keywordEach [] X.env))) := by rfl)
    (hdb : (x == ("__debug__" : Str)) = false := by decide)
    (he : starEach (e :: es) X.env = (false, eval e X.env) :: starEach es X.env := by rfl) (hpl : (backTo pos (starEach es X.env)).any (·.1) = false := by rfl) :
    PE X (.Call (.Attribute (.Name x p1) "__init__" p2) (e :: es) [] pos) (tVeI X.K ta) := by
  refine ⟨fun pins s σ H Q I h => ?_⟩
  refine PySem.W.methodCall_KW (ld_glob I hg hm ?_ hdb) hc
  refine PySem.W.method_cls I.kIn B.ga (PySem.W.cls_value I.kIn B.rd B.fi (by decide +kernel) ?_)
  show wpAny _ _ (callWith pos (Value.builtin "ValueError.__init__") [] (backTo pos (starEach (e :: es) X.env)) []) _ _ _
  refine PyProof.Rows.callWith_method1 (thn (ha.run pos pins _ σ H _ (I.tok _) h) fun us s1 ⟨vs, H1, I1, r1, a, C, ws, ev, hl, T, ea, q⟩ => ?_) he hpl
  subst ev
  cases r1 with
  | @cons _ u0 _ ur ra rw' =>
    obtain rfl : u0 = Value.ref a := ra
    have hlen : ur.length ≤ sizeLine := by
      rw [← Paired.length rw', sizeLine_eq]
      omega
    exact oinit_ok T I1 ea hlen fun s' J => ⟨.non, H1, J, rfl, q⟩
end

/-! ### raise -/
def tRaiseE (E : XK) (t : L2.St → Hp → XK → Prop) : TS := fun _ σ H => t σ H fun cls d H' => E cls d H'
/-- raise within a def that may let it out -/
theorem ps_raiseE {X : Cx} {E : XK} {e : Expr} {t : L2.St → Hp → XK → Prop} {pos : Pos} (hc : X.calm = true) (tk : Takes X (fun cls d _ H => E cls d H)) (he : PMk X e t) : PS X (.Raise (some e) none pos) (tRaiseE E t) := ps_raise hc tk he
theorem upd_fun {H1 H2 : Hp} {a d : Addr} {o : HO} (na : H1 a = none) (nd : d ≠ a) (h : ∀ b, b ≠ a → b ≠ d → H2 b = H1 b) : upd (del H2 a) d o = upd H1 d o := by
  funext b
  by_cases hd : b = d
  · rw [hd, upd_same, upd_same]
  · rw [upd_ne hd, upd_ne hd]
    by_cases ha : b = a
    · rw [ha, del_same, na]
    · rw [del_ne ha, h b ha hd]
/-- what an __init__ that keeps its arguments as fields promises -/
def spIni (K : PySem.W.Frag) (C : Addr) (fs : List Str) : Sp := fun vs H Q _ => ∃ (a : Addr) (ws : List V), vs = .ref a :: ws ∧ ws.length = fs.length ∧ H a = some (exo a C none) ∧
  ∀ d H', H d = none → d ≠ a → H' a = some (exo a C (some d)) → H' d = some (exd d (fs.zip ws).reverse) → (∀ b, b ≠ a → b ≠ d → H' b = H b) → Q .non H'
theorem g_mkO {C : Addr} {K : PySem.W.Frag} {fs : List Str} {ws : List V} {σ : L2.St} {H : Hp} {Q : XK} (l : ws.length = fs.length) (l2 : ws.length ≤ 1000) (q : ∀ d, H d = none → Q (.ref C) (some d) (upd H d (.xd (fs.zip ws).reverse))) :
    ws.length ≤ 1000 ∧ ∀ a, H a = none → spIni K C fs (.ref a :: (ws ++ [])) (upd H a (exo a C none))
      (fun v H2 => v = .non ∧ ∃ (d : Addr) (gs : List (Str × V)), H2 a = some (exo a C (some d)) ∧ H2 d = some (exd d gs) ∧ H d = none ∧ Q (.ref C) (some d) (upd (del H2 a) d (.xd gs))) (fun _ _ _ => False) := by
  refine ⟨l2, fun a na => ⟨a, ws, by rw [List.append_nil], l, upd_same, fun d H' nd ne ea ed same => ⟨rfl, d, _, ea, ed, ?_, ?_⟩⟩⟩
  · rw [upd_ne ne] at nd
    exact nd
  · rw [upd_ne ne] at nd
    rw [upd_fun na ne fun b h1 h2 => by rw [same b h1 h2, upd_ne h1]]
    exact q d nd

/-! ### asked in an except suite -/
structure ExA (K : PySem.W.Frag) (C : Addr) : Prop where
  cl : (PySem.W.clsIn K C).isSome = true
  ga : PySem.W.findIn K (.ref C) "__getattribute__" = some (some (.builtin "BaseException.__getattribute__"))
  gg : PySem.W.findIn K (.ref C) "__getattr__" = some none
  ex : PySem.W.subIn K (.ref C) (.type "BaseException") = some true
  hd : PySem.W.hasDictIn K C = true
  kl : PySem.W.findIn K (.ref C) "__class__" = some (some (.builtin "object.__class__"))
  kn : PySem.W.specialIn K (.builtin "object.__class__") "__get__" = some (some (.builtin "getset_descriptor.__get__"))
  kt : PySem.W.takesIn K (.builtin "object.__class__") = some true
  km : PySem.W.mroIn K C (.type "object") = some true
theorem ExA.xf {K : PySem.W.Frag} {C : Addr} (T : ExA K C) : XfC K C := ⟨T.ga, T.gg, T.ex, T.hd⟩
/-- the caught exception in the suite: its class, its fields -/
def Caught (K : PySem.W.Frag) (cls : Value) (d : Option Addr) (H : Hp) (C : Addr) (fs : List (Str × V)) : Prop := cls = .ref C ∧ ExA K C ∧ ∃ dd, d = some dd ∧ H dd = some (.xd fs)
theorem caught_at {X : Cx} {a C : Addr} {oe : Obj} {cls : Value} {d : Option Addr} {pn pins : List (Addr × Obj)} {σ : L2.St} {H : Hp} {s : Shared} {fs : List (Str × V)} (hz : Zc cls d oe) (hf : ∃ vs, oe.data = .fields vs)
    (I : Inv (X.suite a ((a, oe) :: pn)) pins σ H s) (h : Caught X.K cls d H C fs) : ∃ od, PySem.W.InstAt s.heap a oe C (some od) ∧ ∀ n v, fs.lookup n = some v → ∃ u, RelV v u ∧ PySem.W.lookIn n od = some (some u) := by
  obtain ⟨ec, T, dd, ed, ea⟩ := h
  subst ec
  subst ed
  obtain ⟨ha, _⟩ := I.pin (a, oe) (List.mem_append_left _ List.mem_cons_self)
  obtain ⟨vs, hd⟩ := hf
  have hx : ObjOk X.prog X.w H s.heap dd (.xd fs) := I.hok dd _ ea
  obtain ⟨mA, hns, hr⟩ := hx
  obtain ⟨od, ho, hl⟩ := lookIn_ns hns
  have J : PySem.W.InstAt s.heap a oe C (some od) := ⟨ha, hz.1, by unfold PySem.W.notCls; rw [hd] <;> rfl, by rw [hz.2]; exact ho⟩
  refine ⟨od, J, fun n v l => ?_⟩
  obtain ⟨u, hu, ru⟩ := RelO.some_of (v := v) (o := mA n) (by rw [← l]; exact hr n)
  exact ⟨u, ru, by rw [hl, hu]⟩
section
variable {X : Cx} {a : Addr} {oe : Obj} {cls : Value} {d : Option Addr} {pn : List (Addr × Obj)} {e : Expr} {te : TE} {pos : Pos} {n : Str}
/-- e.f -/
def tXfA (K : PySem.W.Frag) (a : Addr) (cls : Value) (d : Option Addr) (f : Str) (te : TE) : TE := fun σ H Q => te σ H fun x H1 => x = .ref a ∧ ∃ (C : Addr) (fs : List (Str × V)) (v : V), Caught K cls d H1 C fs ∧ PySem.W.findIn K (.ref C) f = some none ∧ fs.lookup f = some v ∧ Q v H1
theorem pe_xfA (hz : Zc cls d oe) (hf : ∃ vs, oe.data = .fields vs) (he : PE (X.suite a ((a, oe) :: pn)) e te) (hb : attributeBase e n X.env (eval e X.env) = eval e X.env := by rfl) :
    PE (X.suite a ((a, oe) :: pn)) (.Attribute e n pos) (tXfA X.K a cls d n te) := by
  refine ⟨fun pins s σ H Q I h => ?_⟩
  refine attr_of hb (thn (he.run pins s σ H _ I h) fun u s1 hh => ?_)
  obtain ⟨x, H1, I1, rx, ex, C, fs, v, c, hno, l, q⟩ := hh
  subst ex
  obtain rfl : u = Value.ref a := rx
  obtain ⟨od, J, hl⟩ := caught_at hz hf I1 c
  obtain ⟨u, ru, hu⟩ := hl n v l
  have T := c.2.1
  exact HandSPX.exc_get I1.kIn J T.ga T.gg T.ex (PySem.W.findObj_own T.hd hno rfl hu) (handed_of ru) ⟨v, H1, I1.tok _, ru, q⟩
/-- isinstance(e, c), isinstance(e, (c, ..)) -/
def rIsA (K : PySem.W.Frag) (a : Addr) (cls : Value) (d : Option Addr) : List V → Hp → VK → Prop := fun xs H Q => ∃ (C : Addr) (fs : List (Str × V)) (c : V), xs = [.ref a, c] ∧ Caught K cls d H C fs ∧
  ((∃ (cv : Value) (b : Bool), (∀ u, RelV c u → u = cv) ∧ PySem.W.kitOne K (.ref C) cv = some b ∧ Q (.bl b) H) ∨
    ∃ (t : Addr) (cs : List Addr) (b : Bool), c = .ref t ∧ Tup H t (cs.map V.ref) ∧ PySem.W.kitAny K (.ref C) (cs.map Value.ref) = some b ∧ Q (.bl b) H)
theorem vals_refs : ∀ {cs : List Addr} {us : List Value}, Vals (cs.map V.ref) us → us = cs.map Value.ref
  | [], _, r => by cases r; rfl
  | c :: cs, _, r => by
    cases r with
    | cons r1 r2 =>
      rw [vals_refs r2]
      cases r1
      rfl
theorem call_isA (hz : Zc cls d oe) (hf : ∃ vs, oe.data = .fields vs) : CallR (X.suite a ((a, oe) :: pn)) (.builtin "isinstance") (rIsA X.K a cls d) := by
  intro pins s σ H xs us Q I r h
  obtain ⟨C, fs, c, rfl, k, h⟩ := h
  obtain ⟨od, J, _⟩ := caught_at hz hf I k
  have T := k.2.1
  have Z : PySem.W.KitX X.K (.ref a) (.ref C) (fun h => PySem.W.InstAt h a oe C (some od)) := PySem.W.kitx_exc T.cl T.ga T.gg T.ex T.kl T.kn T.kt T.km
  cases r with
  | cons rx rr =>
    cases rr with
    | cons rt rr =>
      cases rr
      cases rx
      rcases h with ⟨cv, b, hcv, e, q⟩ | ⟨t, cs, b, rfl, tu, e, q⟩
      · have ec := hcv _ rt
        subst ec
        exact PySem.W.kia_one Z I.kIn J e (fun z => nomatch z) fun tk => ⟨.bl b, H, I.kept (t' := tk) fun _ _ z => z, rfl, q⟩
      · cases rt
        obtain ⟨its, n, rv, z, ho⟩ := tu.obj I
        rw [vals_refs rv] at ho
        exact PySem.W.kia_tup Z I.kIn J ho e (fun z => nomatch z) fun tk => ⟨.bl b, H, I.kept (t' := tk) fun _ _ z => z, rfl, q⟩
end
end Wg
namespace Wg
open PySem PySem.Spec PyProof.Rows L2
/-! ### the __init__ of an exception class, walked -/
theorem rd_ini1 {K : PySem.W.Frag} {C : Addr} {f1 m : Str} (T : OexC K C) (n1 : PySem.W.findIn K (.ref C) f1 = some none) {vs : List V} {H : Hp} {Q : VK} {E : XK} {x y : Str} (h : spIni K C [f1] vs H Q E) :
    tSeq (tDrop (tVeI K (tCons (tVar 0) (tCons (tC (.str m)) tNil)))) (tOst K f1 (tVar 0) (tVar 1)) { nx := fun _ H' => Q .non H', rt := Q } (L2.start [x, y] vs) H := by
  obtain ⟨a, ws, rfl, l, ea, q⟩ := h
  match ws, l with
  | [v1], _ =>
    show ∃ x, (some (some (V.ref a)) = some (some x)) ∧ _
    refine ⟨_, rfl, a, C, [.str m], rfl, by show 1 ≤ 1000; decide, T, ea, ?_⟩
    refine ⟨v1, rfl, .ref a, rfl, a, C, rfl, T, n1, .inl ⟨ea, fun d nd ne => ?_⟩⟩
    exact q d _ nd ne upd_same (by rw [upd_ne ne, upd_same]; rfl) fun b h1 h2 => by rw [upd_ne h1, upd_ne h2]
theorem rd_ini2 {K : PySem.W.Frag} {C : Addr} {f1 f2 m : Str} (T : OexC K C) (n1 : PySem.W.findIn K (.ref C) f1 = some none) (n2 : PySem.W.findIn K (.ref C) f2 = some none) {vs : List V} {H : Hp} {Q : VK} {E : XK} {x y z : Str} (h : spIni K C [f1, f2] vs H Q E) :
    tSeq (tDrop (tVeI K (tCons (tVar 0) (tCons (tC (.str m)) tNil)))) (tSeq (tOst K f1 (tVar 0) (tVar 1)) (tOst K f2 (tVar 0) (tVar 2))) { nx := fun _ H' => Q .non H', rt := Q } (L2.start [x, y, z] vs) H := by
  obtain ⟨a, ws, rfl, l, ea, q⟩ := h
  match ws, l with
  | [v1, v2], _ =>
    show ∃ x, (some (some (V.ref a)) = some (some x)) ∧ _
    refine ⟨_, rfl, a, C, [.str m], rfl, by show 1 ≤ 1000; decide, T, ea, ?_⟩
    refine ⟨v1, rfl, .ref a, rfl, a, C, rfl, T, n1, .inl ⟨ea, fun d nd ne => ?_⟩⟩
    refine ⟨v2, rfl, .ref a, rfl, a, C, rfl, T, n2, .inr ⟨d, _, upd_same, by rw [upd_ne ne, upd_same], by show 1 ≤ 900; decide, ?_⟩⟩
    refine q d _ nd ne (by rw [upd_ne (Ne.symm ne), upd_same]) upd_same fun b h1 h2 => by rw [upd_ne h2, upd_ne h1, upd_ne h2]
/-! ### try -/
def tTryAs (K : PySem.W.Frag) (C : Addr) (i : Nat) (tb : WX → TS) (ts : Addr → Value → Option Addr → TS) : TS := fun D σ H => tb (wAs K (.ref C) i ts (fun _ _ _ _ => False) D) D σ H
def tTryOnly (K : PySem.W.Frag) (C : Addr) (tb : WX → TS) (ts : Addr → Value → Option Addr → TS) : TS := fun D σ H => tb (wOnly K (.ref C) ts (fun _ _ _ _ => False) D) D σ H
end Wg

namespace Wg
open PySem PySem.Spec PyProof.Rows L2
/-! ### is True of a thing that may be an object -/
def rIsX : R2 := fun x y H Q => ∃ b : Bool, y = .bl b ∧ ((∃ a : Bool, x = .bl a ∧ Q (.bl (decide (a = b))) H) ∨ (∃ p, x = .ref p ∧ Q (.bl false) H))
def rNotX : R2 := fun x y H Q => ∃ b : Bool, y = .bl b ∧ ((∃ a : Bool, x = .bl a ∧ Q (.bl (!decide (a = b))) H) ∨ (∃ p, x = .ref p ∧ Q (.bl true) H))
section
variable {X : Cx}
theorem op_isX : OpR X (compareOp .Is) rIsX := by
  intro pins s σ H x y v u Q I rx ry h
  obtain ⟨b, rfl, ⟨a, rfl, q⟩ | ⟨p, rfl, q⟩⟩ := h
  · exact op_isBl _ _ _ _ _ _ _ _ _ I rx ry ⟨a, b, rfl, rfl, q⟩
  · cases (show v = Value.ref p from rx)
    cases (show u = Value.bool b from ry)
    exact wpAny_is_other rfl (fun z => nomatch z) ⟨.bl false, H, I, rfl, q⟩
theorem op_notX : OpR X (compareOp .IsNot) rNotX := by
  intro pins s σ H x y v u Q I rx ry h
  obtain ⟨b, rfl, ⟨a, rfl, q⟩ | ⟨p, rfl, q⟩⟩ := h
  · exact op_notBl _ _ _ _ _ _ _ _ _ I rx ry ⟨a, b, rfl, rfl, q⟩
  · cases (show v = Value.ref p from rx)
    cases (show u = Value.bool b from ry)
    exact wpAny_isNot_other rfl (fun z => nomatch z) ⟨.bl true, H, I, rfl, q⟩
end
/-! ### a comprehension over enumerate(list) -/
def CEl (K : PySem.W.Frag) (g : TG) (tt : TT) (te : TE) (vs : List Nat) (σ : L2.St) (Q : VK) (ws : List V) (H1 : Hp) : Prop := ∃ a xs, ws = [.ref a] ∧ SqL K H1 a xs ∧ CB (Ite K a) g tt te vs σ Q H1
theorem e_lcEl {K : PySem.W.Frag} {ta : TA} {g : TG} {tt : TT} {te : TE} {vs : List Nat} {σ : L2.St} {H : Hp} {Q : VK} : tLc (iEnum K ta) g tt te vs σ H Q ↔ ta σ H (CEl K g tt te vs σ Q) := Iff.rfl
theorem g_CEl {K : PySem.W.Frag} {g : TG} {tt : TT} {te : TE} {vs : List Nat} {σ : L2.St} {Q : VK} {H1 : Hp} {a : Addr} {us : List V} (ha : H1 a = some (.lst us)) (P : Nat → Hp → List V → Prop)
    (p0 : ∀ D H2, H1 D = none → Keep [] H1 H2 → P 0 H2 [])
    (ps : ∀ D i x H acc (R : VK) (R0 : Hp → Prop) T H', H1 D = none → us[i]? = some x → Keep [] H1 H' → H' D = some (.lst acc) → Keep [] H H' → P i H acc → H' T = some (.tup [.int (i : Nat), x]) →
      (∀ z H4, Keep [] H' H4 → acc.length < sizeLine → (∀ H5, Keep [D] H4 H5 → P (i + 1) H5 (acc ++ [z])) → R z H4) → (∀ H3, Keep [] H' H3 → P (i + 1) H3 acc → R0 H3) →
      g (.ref T) (wipe σ vs) H' fun σ2 H2 => wipe σ2 vs = wipe σ vs ∧ tt σ2 H2 fun bb H3 => if bb = true then te σ2 H3 R else R0 H3)
    (pd : ∀ D H acc, H1 D = none → Keep [] H1 H → H D = some (.lst acc) → P us.length H acc → Q (.ref D) H) : CEl K g tt te vs σ Q [.ref a] H1 := by
  refine ⟨a, us, rfl, lst_sq ha, fun D hD => ?_⟩
  refine ⟨fun i m H => m = us.length - i ∧ i ≤ us.length ∧ Keep [] H1 H ∧ ∃ acc, H D = some (.lst acc) ∧ P i H acc, ⟨us.length, by omega, by omega, Keep.new hD, [], upd_same, p0 D _ hD (Keep.new hD)⟩, ?_⟩
  rintro i m H ⟨rfl, hi, k, acc, eD, p⟩
  have ta := lst_sq (K := K) (k _ _ nin0 ha)
  by_cases hlt : i < us.length
  · have hx := List.getElem?_eq_getElem hlt
    refine .inr ⟨⟨us, _, ta, hx⟩, fun H' => i + 1 ≤ us.length ∧ Keep [] H1 H' ∧ ∃ acc, H' D = some (.lst acc) ∧ P (i + 1) H' acc, fun H' q => ⟨us.length - (i + 1), by omega, rfl, q⟩, fun v H' y => ?_⟩
    obtain ⟨T, x', rfl, hT, rfl, f1⟩ := y
    have kn : Keep [] H (upd H T (.tup [.int (i : Nat), x'])) := Keep.new hT
    refine ps D i x' H acc _ _ T _ hD (f1 us ta) (k.trans kn) (kn _ _ nin0 eD) kn p upd_same (fun z H4 k4 hz q => ⟨acc, k4 _ _ nin0 (kn _ _ nin0 eD), hz, hlt, (k.trans (kn.trans k4)).past Keep.set hD, _, upd_same, q _ Keep.set⟩) fun H3 k3 q => ⟨hlt, k.trans (kn.trans k3), acc, k3 _ _ nin0 (kn _ _ nin0 eD), q⟩
  · have e : i = us.length := by omega
    subst e
    exact .inl ⟨⟨us, ta, Nat.le_refl _⟩, pd D H acc hD k eD p⟩
end Wg

namespace Wg
open PySem PySem.Spec PyProof.Rows L2
/-! ### for over reversed(list) -/
def FRv (K : PySem.W.Frag) (g : TG) (tb : TS) (D : Ends) (σ : L2.St) (vs : List V) (H1 : Hp) : Prop := ∃ a xs, vs = [.ref a] ∧ SqL K H1 a xs ∧ ∃ W : Nat → Nat → L2.St → Hp → Prop, (∃ m, W 0 m σ H1) ∧ ∀ i m σ H, W i m σ H →
  ((Itv K a xs.length).stop i H ∧ D.nx σ H) ∨ ((Itv K a xs.length).go i H ∧ ∃ N : L2.St → Hp → Prop, (∀ σ' H', N σ' H' → ∃ m', m' < m ∧ W (i + 1) m' σ' H') ∧ ∀ x H', (Itv K a xs.length).yld i H x H' → g x σ H' fun σ2 H2 => tb { D with nx := N, ct := N, bk := D.nx } σ2 H2)
theorem e_forRv {K : PySem.W.Frag} {ta : TA} {g : TG} {tb : TS} {D : Ends} {σ : L2.St} {H : Hp} : tFor (iRev K ta) g tb D σ H ↔ ta σ H (FRv K g tb D σ) := Iff.rfl
theorem g_FRv {K : PySem.W.Frag} {g : TG} {tb : TS} {D : Ends} {σ : L2.St} {H1 : Hp} {a : Addr} {xs : List V} (Pv : Nat → L2.St → Hp → Prop) (h : H1 a = some (.lst xs)) (h0 : Pv 0 σ H1) (hl : ∀ i σ H, i ≤ xs.length → Pv i σ H → H a = some (.lst xs))
    (hs : ∀ i x σ H, i < xs.length → xs[xs.length - 1 - i]? = some x → Pv i σ H → g x σ H fun σ2 H2 => tb { D with nx := Pv (i + 1), ct := Pv (i + 1), bk := D.nx } σ2 H2) (hd : ∀ σ H, Pv xs.length σ H → D.nx σ H) : FRv K g tb D σ [.ref a] H1 := by
  refine ⟨a, xs, rfl, lst_sq h, fun i m σ H => m = xs.length - i ∧ i ≤ xs.length ∧ Pv i σ H, ⟨xs.length, by simp, Nat.zero_le _, h0⟩, ?_⟩
  rintro i m σ H ⟨rfl, hi, p⟩
  have tu := lst_sq (K := K) (hl i σ H hi p)
  by_cases hlt : i < xs.length
  · have hx := List.getElem?_eq_getElem (show xs.length - 1 - i < xs.length by omega)
    refine .inr ⟨⟨hlt, xs, _, tu, hx⟩, Pv (i + 1), fun σ' H' p' => ⟨xs.length - (i + 1), by omega, rfl, hlt, p'⟩, fun x H' y => ?_⟩
    obtain ⟨rfl, hu⟩ := y
    exact hs i x σ H' hlt (hu xs tu) p
  · have e : i = xs.length := by omega
    subst e
    exact .inl ⟨Nat.le_refl _, hd σ H p⟩
end Wg

namespace Wg
open PySem PySem.Spec PyProof.Rows L2
def topS (i : Nat) : Stmt := PySem.Challenge.pw_wagoncalls_k23_charts_and_ways_asked_bet.main.body.getD i (.Pass ⟨0, 0, 0, 0⟩)
/-! wagoncalls_k23_charts_and_ways_asked_bet: the text and the derivations, written by gen.py -/
abbrev s_NoText____init___ : Stmt := inClass (topS 2) 0
abbrev N_NoText____init__ : List Str := ["self", "row"]
theorem sc_NoText____init__ : FnScope N_NoText____init__ ["self", "row"] (defScope s_NoText____init___) := ⟨rfl, rfl, rfl, by decide +kernel, rfl, by decide +kernel, by decide +kernel⟩
theorem dv_NoText____init__ {P : Program} {w : World} {K : PySem.W.Frag} {mg : Str → Option Value} {b : Heap} {a C W : Addr} {dd : FuncData} (F : FnM K "__init__" "NoText.__init__" s_NoText____init___ a dd ["self", "row"]) (B : BasW K W) (g : mg "WagonError" = some (.ref W)) (T : OexC K C) (no_row : PySem.W.findIn K (.ref C) "row" = some none) :
    FnOk P w K mg b CX0 2 a dd ["self", "row"] (spIni K C ["row"]) :=
  Fun.ok F.fn sc_NoText____init__ (fun vs H Q E h => by obtain ⟨x, ws, rfl, l, _⟩ := h; show ws.length + 1 = _; rw [l]; rfl) fun cdv A o s H vs Q E hr h =>
    ⟨_, (pss_cons (ps_expr (pe_winit B (by rfl) g (pa_cons (pv 0) (pa_cons pe_str pa_nil)))) (pss_one (ps_ost (pv 0) (pv 1)))), rd_ini1 (m := "no such text") T no_row h⟩

abbrev s_NoPaper____init___ : Stmt := inClass (topS 3) 0
abbrev N_NoPaper____init__ : List Str := ["self", "word", "at"]
theorem sc_NoPaper____init__ : FnScope N_NoPaper____init__ ["self", "word", "at"] (defScope s_NoPaper____init___) := ⟨rfl, rfl, rfl, by decide +kernel, rfl, by decide +kernel, by decide +kernel⟩
theorem dv_NoPaper____init__ {P : Program} {w : World} {K : PySem.W.Frag} {mg : Str → Option Value} {b : Heap} {a C W : Addr} {dd : FuncData} (F : FnM K "__init__" "NoPaper.__init__" s_NoPaper____init___ a dd ["self", "word", "at"]) (B : BasW K W) (g : mg "WagonError" = some (.ref W)) (T : OexC K C) (no_word : PySem.W.findIn K (.ref C) "word" = some none) (no_at : PySem.W.findIn K (.ref C) "at" = some none) :
    FnOk P w K mg b CX0 2 a dd ["self", "word", "at"] (spIni K C ["word", "at"]) :=
  Fun.ok F.fn sc_NoPaper____init__ (fun vs H Q E h => by obtain ⟨x, ws, rfl, l, _⟩ := h; show ws.length + 1 = _; rw [l]; rfl) fun cdv A o s H vs Q E hr h =>
    ⟨_, (pss_cons (ps_expr (pe_winit B (by rfl) g (pa_cons (pv 0) (pa_cons pe_str pa_nil)))) (pss_cons (ps_ost (pv 0) (pv 1)) (pss_one (ps_ost (pv 0) (pv 2))))), rd_ini2 (m := "no such paper") T no_word no_at h⟩

abbrev s_NoCall____init___ : Stmt := inClass (topS 4) 0
abbrev N_NoCall____init__ : List Str := ["self", "name"]
theorem sc_NoCall____init__ : FnScope N_NoCall____init__ ["self", "name"] (defScope s_NoCall____init___) := ⟨rfl, rfl, rfl, by decide +kernel, rfl, by decide +kernel, by decide +kernel⟩
theorem dv_NoCall____init__ {P : Program} {w : World} {K : PySem.W.Frag} {mg : Str → Option Value} {b : Heap} {a C W : Addr} {dd : FuncData} (F : FnM K "__init__" "NoCall.__init__" s_NoCall____init___ a dd ["self", "name"]) (B : BasW K W) (g : mg "WagonError" = some (.ref W)) (T : OexC K C) (no_name : PySem.W.findIn K (.ref C) "name" = some none) :
    FnOk P w K mg b CX0 2 a dd ["self", "name"] (spIni K C ["name"]) :=
  Fun.ok F.fn sc_NoCall____init__ (fun vs H Q E h => by obtain ⟨x, ws, rfl, l, _⟩ := h; show ws.length + 1 = _; rw [l]; rfl) fun cdv A o s H vs Q E hr h =>
    ⟨_, (pss_cons (ps_expr (pe_winit B (by rfl) g (pa_cons (pv 0) (pa_cons pe_str pa_nil)))) (pss_one (ps_ost (pv 0) (pv 1)))), rd_ini1 (m := "no such call") T no_name h⟩

abbrev s_is_whole_ : Stmt := topS 14
abbrev N_is_whole : List Str := ["thing"]
theorem sc_is_whole : FnScope N_is_whole ["thing"] (defScope s_is_whole_) := ⟨rfl, rfl, rfl, by decide +kernel, rfl, by decide +kernel, by decide +kernel⟩
def t_is_whole (K : PySem.W.Frag) : TS :=
  tRet (tAndT K (tCB (rIsi K) (tCons (tVar 0) (tCons (tC (.ty "int")) (tNil)))) (tNotT K (tCB (rIsi K) (tCons (tVar 0) (tCons (tC (.ty "bool")) (tNil))))))
theorem dv_is_whole {P : Program} {w : World} {K : PySem.W.Frag} {mg : Str → Option Value} {b : Heap} {a : Addr} {d : FuncData} {sp : Sp} (F : Fn K mg "is_whole" s_is_whole_ a d ["thing"])
    (n_isinstance : mg "isinstance" = none)
    (n_int : mg "int" = none)
    (n_bool : mg "bool" = none)
    (len : ∀ vs H Q E, sp vs H Q E → vs.length = 1)
    (rd : ∀ vs H Q E, sp vs H Q E → run (t_is_whole K) (start N_is_whole vs) H Q) : Keeps P w K mg b CX0 2 a d ["thing"] sp := by
  refine keeps0 F.fn sc_is_whole len fun cdv A o s H vs Q E hr h => ⟨t_is_whole K, ?_, rd vs H Q E h⟩
  unfold t_is_whole 
  exact (pss_one (ps_ret (pe_andT (pe_callB call_isi (by rfl) n_isinstance (by decide +kernel) (pa_cons (pv 0) (pa_cons (pe_bltn (v := .ty "int") (by rfl) n_int (by decide +kernel) rfl) pa_nil))) (pe_one (pe_notT (pe_callB call_isi (by rfl) n_isinstance (by decide +kernel) (pa_cons (pv 0) (pa_cons (pe_bltn (v := .ty "bool") (by rfl) n_bool (by decide +kernel) rfl) pa_nil))))))))

abbrev s_is_within_ : Stmt := topS 15
abbrev N_is_within : List Str := ["thing", "least", "most"]
theorem sc_is_within : FnScope N_is_within ["thing", "least", "most"] (defScope s_is_within_) := ⟨rfl, rfl, rfl, by decide +kernel, rfl, by decide +kernel, by decide +kernel⟩
def t_is_within (K : PySem.W.Frag) (s_is_whole : Sp) : TS :=
  tRet (tAndT K (tGo s_is_whole E0 (tCons (tVar 0) (tNil))) (tChain (rI0 fun i j => .bl (decide (i ≤ j))) (rI0 fun i j => .bl (decide (i ≤ j))) (tVar 1) (tVar 0) (tVar 2)))
theorem dv_is_within {P : Program} {w : World} {K : PySem.W.Frag} {mg : Str → Option Value} {b : Heap} {a : Addr} {d : FuncData} {sp : Sp} (F : Fn K mg "is_within" s_is_within_ a d ["thing", "least", "most"])
    {a_is_whole : Addr} {d_is_whole : FuncData} {s_is_whole : Sp} (F_is_whole : Fn K mg "is_whole" s_is_whole_ a_is_whole d_is_whole ["thing"]) (k_is_whole : Keeps P w K mg b CX0 2 a_is_whole d_is_whole ["thing"] s_is_whole)
    (len : ∀ vs H Q E, sp vs H Q E → vs.length = 3)
    (rd : ∀ vs H Q E, sp vs H Q E → run (t_is_within K s_is_whole) (start N_is_within vs) H Q) : Keeps P w K mg b CX0 3 a d ["thing", "least", "most"] sp := by
  refine keeps0 F.fn sc_is_within len fun cdv A o s H vs Q E hr h => ⟨t_is_within K s_is_whole, ?_, rd vs H Q E h⟩
  unfold t_is_within 
  exact (pss_one (ps_ret (pe_andT (pe_go k_is_whole (hr.mono (by decide)) rfl F_is_whole.g F_is_whole.fn.kp F_is_whole.b pass0 (pa_cons (pv 0) pa_nil)) (pe_one (pe_chain op_le op_le (pv 1) (pv 0) (pv 2))))))

abbrev s_drives_of_ : Stmt := topS 23
abbrev N_drives_of : List Str := ["town", "shut", "places", "drives", "number", "one", "other", "there", "back"]
theorem sc_drives_of : FnScope N_drives_of ["town", "shut"] (defScope s_drives_of_) := ⟨rfl, rfl, rfl, by decide +kernel, rfl, by decide +kernel, by decide +kernel⟩
def t_drives_of_r1 (K : PySem.W.Frag) : TS :=
  tIfS (tTest (tOp rNotN (tVar 8) (tC .non))) (tDrop (tBM K "list" uAppend (tVar 3) (tCons (tTupU (tCons (tVar 4) (tCons (tIdx K (tVar 2) (tCons (tVar 6) (tNil))) (tCons (tIdx K (tVar 2) (tCons (tVar 5) (tNil))) (tCons (tVar 8) (tNil)))))) (tNil)))) (tNext)
def t_drives_of_r2 (K : PySem.W.Frag) : TS :=
  tSeq (tIfS (tTest (tOp rNotN (tVar 7) (tC .non))) (tDrop (tBM K "list" uAppend (tVar 3) (tCons (tTupU (tCons (tVar 4) (tCons (tIdx K (tVar 2) (tCons (tVar 5) (tNil))) (tCons (tIdx K (tVar 2) (tCons (tVar 6) (tNil))) (tCons (tVar 7) (tNil)))))) (tNil)))) (tNext)) (t_drives_of_r1 K)
def t_drives_of_b1 (K : PySem.W.Frag) : TS :=
  tSeq (tIfS (tTest (tOp (uIn K false) (tVar 4) (tVar 1))) (tCont) (tNext)) (t_drives_of_r2 K)
def t_drives_of_r3 (K : PySem.W.Frag) : TS :=
  tRet (tVar 3)
def t_drives_of (K : PySem.W.Frag) : TS :=
  tSeq (tAsg (tOp (uIx K) (tVar 0) (tC (.int 0))) (gName 2)) (tSeq (tAsg (tLstU (tNil)) (gName 3)) (tSeq (tFor (iEnumU K (tCons (tOp (uIx K) (tVar 0) (tC (.int 1))) (tNil))) (gTup K 2 (gCons (gName 4) (gCons (gTup K 4 (gCons (gName 5) (gCons (gName 6) (gCons (gName 7) (gCons (gName 8) (gNil)))))) (gNil)))) (t_drives_of_b1 K)) (t_drives_of_r3 K)))
theorem dv_drives_of {P : Program} {w : World} {K : PySem.W.Frag} {mg : Str → Option Value} {b : Heap} {a : Addr} {d : FuncData} {sp : Sp} (F : Fn K mg "drives_of" s_drives_of_ a d ["town", "shut"])
    (n_enumerate : mg "enumerate" = none)
    (len : ∀ vs H Q E, sp vs H Q E → vs.length = 2)
    (rd : ∀ vs H Q E, sp vs H Q E → run (t_drives_of K) (start N_drives_of vs) H Q) : Keeps P w K mg b CX0 2 a d ["town", "shut"] sp := by
  refine keeps0 F.fn sc_drives_of len fun cdv A o s H vs Q E hr h => ⟨t_drives_of K, ?_, rd vs H Q E h⟩
  unfold t_drives_of t_drives_of_r3 t_drives_of_b1 t_drives_of_r2 t_drives_of_r1
  exact (pss_cons (ps_set (i := 2) sc_drives_of.nd rfl (.inl rfl) (pe_ix ix_u (pv 0) pe_int (fun _ _ => rfl)))
  (pss_cons (ps_set (i := 3) sc_drives_of.nd rfl (.inl rfl) (pe_lstU pa_nil))
  (pss_cons (ps_for PassesOwn.never rfl (pi_enumU (by rfl) n_enumerate (pa_cons (pe_ix ix_u (pv 0) pe_int (fun _ _ => rfl)) pa_nil)) (pg_tup rfl (pgs_cons (pg_name (i := 4) sc_drives_of.nd rfl (.inl rfl)) (pgs_cons (pg_tup rfl (pgs_cons (pg_name (i := 5) sc_drives_of.nd rfl (.inl rfl)) (pgs_cons (pg_name (i := 6) sc_drives_of.nd rfl (.inl rfl)) (pgs_cons (pg_name (i := 7) sc_drives_of.nd rfl (.inl rfl)) (pgs_cons (pg_name (i := 8) sc_drives_of.nd rfl (.inl rfl)) pgs_nil))))) pgs_nil))) (pss_cons (ps_if (pt_cmpR op_uIn (pv 4) (pv 1) rfl) (pss_one ps_continue) pss_nil)
  (pss_cons (ps_if (pt_cmpR op_notN (pv 7) pe_non (nomark _)) (pss_one (ps_expr (pe_bm PySem.F.plainAttrs_list PySem.F.slot_list_append PySem.F.type_list_append mt_uAppend (pv 3) (pa_cons (pe_tupU (pa_cons (pv 4) (pa_cons (pe_idx (pv 2) (pa_cons (pv 5) pa_nil)) (pa_cons (pe_idx (pv 2) (pa_cons (pv 6) pa_nil)) (pa_cons (pv 7) pa_nil))))) pa_nil)))) pss_nil)
  (pss_one (ps_if (pt_cmpR op_notN (pv 8) pe_non (nomark _)) (pss_one (ps_expr (pe_bm PySem.F.plainAttrs_list PySem.F.slot_list_append PySem.F.type_list_append mt_uAppend (pv 3) (pa_cons (pe_tupU (pa_cons (pv 4) (pa_cons (pe_idx (pv 2) (pa_cons (pv 6) pa_nil)) (pa_cons (pe_idx (pv 2) (pa_cons (pv 5) pa_nil)) (pa_cons (pv 8) pa_nil))))) pa_nil)))) pss_nil)))))
  (pss_one (ps_ret (pv 3))))))

abbrev s_is_steep_ : Stmt := topS 24
abbrev N_is_steep : List Str := ["row", "drive", "_", "begin", "end", "minutes"]
theorem sc_is_steep : FnScope N_is_steep ["row", "drive"] (defScope s_is_steep_) := ⟨rfl, rfl, rfl, by decide +kernel, rfl, by decide +kernel, by decide +kernel⟩
def t_is_steep_r1 (K : PySem.W.Frag) : TS :=
  tRet (tOrT K (tOp rIsN (tOp (uIx K) (tVar 0) (tVar 3)) (tC .non)) (tOp (rI0 fun i j => .bl (decide (j < i))) (tOp (uIx K) (tVar 0) (tVar 3)) (tOp (uAdd K) (tOp (uIx K) (tVar 0) (tVar 4)) (tVar 5))))
def t_is_steep (K : PySem.W.Frag) : TS :=
  tSeq (tAsg (tVar 1) (gTup K 4 (gCons (gName 2) (gCons (gName 3) (gCons (gName 4) (gCons (gName 5) (gNil))))))) (tSeq (tIfS (tTest (tOp rIsN (tOp (uIx K) (tVar 0) (tVar 4)) (tC .non))) (tRet (tC (.bl false))) (tNext)) (t_is_steep_r1 K))
theorem dv_is_steep {P : Program} {w : World} {K : PySem.W.Frag} {mg : Str → Option Value} {b : Heap} {a : Addr} {d : FuncData} {sp : Sp} (F : Fn K mg "is_steep" s_is_steep_ a d ["row", "drive"])
    (len : ∀ vs H Q E, sp vs H Q E → vs.length = 2)
    (rd : ∀ vs H Q E, sp vs H Q E → run (t_is_steep K) (start N_is_steep vs) H Q) : Keeps P w K mg b CX0 2 a d ["row", "drive"] sp := by
  refine keeps0 F.fn sc_is_steep len fun cdv A o s H vs Q E hr h => ⟨t_is_steep K, ?_, rd vs H Q E h⟩
  unfold t_is_steep t_is_steep_r1
  exact (pss_cons (ps_asg (pv 1) (pg_tup rfl (pgs_cons (pg_name (i := 2) sc_is_steep.nd rfl (.inl rfl)) (pgs_cons (pg_name (i := 3) sc_is_steep.nd rfl (.inl rfl)) (pgs_cons (pg_name (i := 4) sc_is_steep.nd rfl (.inl rfl)) (pgs_cons (pg_name (i := 5) sc_is_steep.nd rfl (.inl rfl)) pgs_nil))))))
  (pss_cons (ps_if (pt_cmpR op_isN (pe_ix ix_u (pv 0) (pv 4) (fun _ _ => rfl)) pe_non (nomark _)) (pss_one (ps_ret pe_bl)) pss_nil)
  (pss_one (ps_ret (pe_orT (pe_cmpR op_isN (pe_ix ix_u (pv 0) (pv 3) (fun _ _ => rfl)) pe_non (nomark _)) (pe_one (pe_cmpR op_gt (pe_ix ix_u (pv 0) (pv 3) (fun _ _ => rfl)) (pe_op op_uAdd (pe_ix ix_u (pv 0) (pv 4) (fun _ _ => rfl)) (pv 5)) (nomark _))))))))

abbrev s__least_minutes_ : Stmt := topS 26
abbrev N__least_minutes : List Str := ["drives", "many", "goal", "row", "_", "drive"]
theorem sc__least_minutes : FnScope N__least_minutes ["drives", "many", "goal"] (defScope s__least_minutes_) := ⟨rfl, rfl, rfl, by decide +kernel, rfl, by decide +kernel, by decide +kernel⟩
def t__least_minutes_b1 (K : PySem.W.Frag) (s_is_steep : Sp) : TS :=
  tIfS (tTru K (tGo s_is_steep E0 (tCons (tVar 3) (tCons (tVar 5) (tNil))))) (tAsg (tOp (uAdd K) (tOp (uIx K) (tVar 3) (tOp (uIx K) (tVar 5) (tC (.int 2)))) (tOp (uIx K) (tVar 5) (tC (.int 3)))) (gSub (tVar 3) (tOp (uIx K) (tVar 5) (tC (.int 1))) uSetL)) (tNext)
def t__least_minutes_b2 (K : PySem.W.Frag) (s_is_steep : Sp) : TS :=
  tFor (iU K (tVar 0)) (gName 5) (t__least_minutes_b1 K s_is_steep)
def t__least_minutes_r1 (K : PySem.W.Frag) (s_is_steep : Sp) : TS :=
  tRet (tCB (uTuple K) (tCons (tVar 3) (tNil)))
def t__least_minutes (K : PySem.W.Frag) (s_is_steep : Sp) : TS :=
  tSeq (tAsg (tOp uMul (tLstU (tCons (tC .non) (tNil))) (tVar 1)) (gName 3)) (tSeq (tAsg (tC (.int 0)) (gSub (tVar 3) (tVar 2) uSetL)) (tSeq (tFor (iRng1 (tCons (tVar 1) (tNil))) (gName 4) (t__least_minutes_b2 K s_is_steep)) (t__least_minutes_r1 K s_is_steep)))
theorem dv__least_minutes {P : Program} {w : World} {K : PySem.W.Frag} {mg : Str → Option Value} {b : Heap} {a : Addr} {d : FuncData} {sp : Sp} (F : Fn K mg "_least_minutes" s__least_minutes_ a d ["drives", "many", "goal"])
    (n_range : mg "range" = none)
    {a_is_steep : Addr} {d_is_steep : FuncData} {s_is_steep : Sp} (F_is_steep : Fn K mg "is_steep" s_is_steep_ a_is_steep d_is_steep ["row", "drive"]) (k_is_steep : Keeps P w K mg b CX0 2 a_is_steep d_is_steep ["row", "drive"] s_is_steep)
    (n_tuple : mg "tuple" = none)
    (len : ∀ vs H Q E, sp vs H Q E → vs.length = 3)
    (rd : ∀ vs H Q E, sp vs H Q E → run (t__least_minutes K s_is_steep) (start N__least_minutes vs) H Q) : Keeps P w K mg b CX0 3 a d ["drives", "many", "goal"] sp := by
  refine keeps0 F.fn sc__least_minutes len fun cdv A o s H vs Q E hr h => ⟨t__least_minutes K s_is_steep, ?_, rd vs H Q E h⟩
  unfold t__least_minutes t__least_minutes_r1 t__least_minutes_b2 t__least_minutes_b1
  exact (pss_cons (ps_set (i := 3) sc__least_minutes.nd rfl (.inl rfl) (pe_op op_uMul (pe_lstU (pa_cons pe_non pa_nil)) (pv 1)))
  (pss_cons (ps_asg pe_int (pg_sub (pv 3) (pv 2) set_u))
  (pss_cons (ps_for PassesOwn.never rfl (pi_range1 (by rfl) n_range (pa_cons (pv 1) pa_nil)) (pg_name (i := 4) sc__least_minutes.nd rfl (.inl rfl)) (pss_one (ps_for PassesOwn.never rfl (pi_u (pv 0)) (pg_name (i := 5) sc__least_minutes.nd rfl (.inl rfl)) (pss_one (ps_if (pt_tru (pe_go k_is_steep (hr.mono (by decide)) rfl F_is_steep.g F_is_steep.fn.kp F_is_steep.b pass0 (pa_cons (pv 3) (pa_cons (pv 5) pa_nil)))) (pss_one (ps_asg (pe_op op_uAdd (pe_ix ix_u (pv 3) (pe_ix ix_u (pv 5) pe_int (fun _ _ => rfl)) (fun _ _ => rfl)) (pe_ix ix_u (pv 5) pe_int (fun _ _ => rfl))) (pg_sub (pv 3) (pe_ix ix_u (pv 5) pe_int (fun _ _ => rfl)) set_u))) pss_nil)))))
  (pss_one (ps_ret (pe_callTy call_uTuple (by rfl) n_tuple (by decide +kernel) (pa_cons (pv 3) pa_nil)))))))

abbrev s_chart_of_ : Stmt := topS 17
abbrev N_chart_of : List Str := ["town", "shut", "drives", "many", "goal"]
theorem sc_chart_of : FnScope N_chart_of ["town", "shut"] (defScope s_chart_of_) := ⟨rfl, rfl, rfl, by decide +kernel, rfl, by decide +kernel, by decide +kernel⟩
def t_chart_of (K : PySem.W.Frag) (s_drives_of : Sp) (s__least_minutes : Sp) : TS :=
  tSeq (tAsg (tGo s_drives_of E0 (tCons (tVar 0) (tCons (tVar 1) (tNil)))) (gName 2)) (tSeq (tAsg (tCB (uLen K) (tCons (tOp (uIx K) (tVar 0) (tC (.int 0))) (tNil))) (gName 3)) (tRet (tCB (uTuple K) (tCons (tLc (iRng1 (tCons (tVar 3) (tNil))) (gName 4) (tYes) (tGo s__least_minutes E0 (tCons (tVar 2) (tCons (tVar 3) (tCons (tVar 4) (tNil))))) [4]) (tNil)))))
theorem dv_chart_of {P : Program} {w : World} {K : PySem.W.Frag} {mg : Str → Option Value} {b : Heap} {a : Addr} {d : FuncData} {sp : Sp} (F : Fn K mg "chart_of" s_chart_of_ a d ["town", "shut"])
    {a_drives_of : Addr} {d_drives_of : FuncData} {s_drives_of : Sp} (F_drives_of : Fn K mg "drives_of" s_drives_of_ a_drives_of d_drives_of ["town", "shut"]) (k_drives_of : Keeps P w K mg b CX0 2 a_drives_of d_drives_of ["town", "shut"] s_drives_of)
    (n_len : mg "len" = none)
    (n_tuple : mg "tuple" = none)
    (n_range : mg "range" = none)
    {a__least_minutes : Addr} {d__least_minutes : FuncData} {s__least_minutes : Sp} (F__least_minutes : Fn K mg "_least_minutes" s__least_minutes_ a__least_minutes d__least_minutes ["drives", "many", "goal"]) (k__least_minutes : Keeps P w K mg b CX0 3 a__least_minutes d__least_minutes ["drives", "many", "goal"] s__least_minutes)
    (len : ∀ vs H Q E, sp vs H Q E → vs.length = 2)
    (rd : ∀ vs H Q E, sp vs H Q E → run (t_chart_of K s_drives_of s__least_minutes) (start N_chart_of vs) H Q) : Keeps P w K mg b CX0 4 a d ["town", "shut"] sp := by
  refine keeps0 F.fn sc_chart_of len fun cdv A o s H vs Q E hr h => ⟨t_chart_of K s_drives_of s__least_minutes, ?_, rd vs H Q E h⟩
  unfold t_chart_of 
  exact (pss_cons (ps_set (i := 2) sc_chart_of.nd rfl (.inr rfl) (pe_go k_drives_of (hr.mono (by decide)) rfl F_drives_of.g F_drives_of.fn.kp F_drives_of.b pass0 (pa_cons (pv 0) (pa_cons (pv 1) pa_nil))))
  (pss_cons (ps_set (i := 3) sc_chart_of.nd rfl (.inr rfl) (pe_callB call_uLen (by rfl) n_len (by decide +kernel) (pa_cons (pe_ix ix_u (pv 0) pe_int (fun _ _ => rfl)) pa_nil)))
  (pss_one (ps_ret (pe_callTy call_uTuple (by rfl) n_tuple (by decide +kernel) (pa_cons (pe_lc (own := [("goal", 4)]) rfl sc_chart_of.nd (pi_range1 (by rfl) n_range (pa_cons (pv 3) pa_nil)) (blkOk_by (own := [("goal", 4)]) (N := N_chart_of) (sc := defScope s_chart_of_) (by decide +kernel)) (fun _ _ _ _ _ => (pg_name (i := 4) sc_chart_of.nd rfl (.inl rfl))) (fun _ _ _ _ _ => pts_nil) (fun _ _ _ _ _ => (pe_go k__least_minutes (hr.mono (by decide)) rfl F__least_minutes.g F__least_minutes.fn.kp F__least_minutes.b pass0 (pa_cons (pv 2) (pa_cons (pv 3) (pa_cons (pv 4) pa_nil)))))) pa_nil))))))

abbrev s_is_least_ : Stmt := topS 25
abbrev N_is_least : List Str := ["row", "drive", "_", "begin", "end", "minutes"]
theorem sc_is_least : FnScope N_is_least ["row", "drive"] (defScope s_is_least_) := ⟨rfl, rfl, rfl, by decide +kernel, rfl, by decide +kernel, by decide +kernel⟩
def t_is_least (K : PySem.W.Frag) : TS :=
  tSeq (tAsg (tVar 1) (gTup K 4 (gCons (gName 2) (gCons (gName 3) (gCons (gName 4) (gCons (gName 5) (gNil))))))) (tRet (tAndT K (tOp rNotN (tOp (uIx K) (tVar 0) (tVar 4)) (tC .non)) (tOp (uEq K false) (tOp (uIx K) (tVar 0) (tVar 3)) (tOp (uAdd K) (tOp (uIx K) (tVar 0) (tVar 4)) (tVar 5)))))
theorem dv_is_least {P : Program} {w : World} {K : PySem.W.Frag} {mg : Str → Option Value} {b : Heap} {a : Addr} {d : FuncData} {sp : Sp} (F : Fn K mg "is_least" s_is_least_ a d ["row", "drive"])
    (len : ∀ vs H Q E, sp vs H Q E → vs.length = 2)
    (rd : ∀ vs H Q E, sp vs H Q E → run (t_is_least K) (start N_is_least vs) H Q) : Keeps P w K mg b CX0 2 a d ["row", "drive"] sp := by
  refine keeps0 F.fn sc_is_least len fun cdv A o s H vs Q E hr h => ⟨t_is_least K, ?_, rd vs H Q E h⟩
  unfold t_is_least 
  exact (pss_cons (ps_asg (pv 1) (pg_tup rfl (pgs_cons (pg_name (i := 2) sc_is_least.nd rfl (.inl rfl)) (pgs_cons (pg_name (i := 3) sc_is_least.nd rfl (.inl rfl)) (pgs_cons (pg_name (i := 4) sc_is_least.nd rfl (.inl rfl)) (pgs_cons (pg_name (i := 5) sc_is_least.nd rfl (.inl rfl)) pgs_nil))))))
  (pss_one (ps_ret (pe_andT (pe_cmpR op_notN (pe_ix ix_u (pv 0) (pv 4) (fun _ _ => rfl)) pe_non (nomark _)) (pe_one (pe_cmpR (op_uEq hr.rm.units) (pe_ix ix_u (pv 0) (pv 3) (fun _ _ => rfl)) (pe_op op_uAdd (pe_ix ix_u (pv 0) (pv 4) (fun _ _ => rfl)) (pv 5)) (nomark _)))))))

abbrev s_first_road_ : Stmt := topS 18
abbrev N_first_road : List Str := ["town", "shut", "chart", "one", "other", "place", "row", "drive"]
theorem sc_first_road : FnScope N_first_road ["town", "shut", "chart", "one", "other"] (defScope s_first_road_) := ⟨rfl, rfl, rfl, by decide +kernel, rfl, by decide +kernel, by decide +kernel⟩
def t_first_road_b1 (K : PySem.W.Frag) (s_drives_of : Sp) (s_is_least : Sp) : TS :=
  tIfS (tAnd (tTest (tOp (uEq K false) (tOp (uIx K) (tVar 7) (tC (.int 1))) (tVar 5))) (tTru K (tGo s_is_least E0 (tCons (tVar 6) (tCons (tVar 7) (tNil)))))) (tRet (tOp (uIx K) (tVar 7) (tC (.int 0)))) (tNext)
def t_first_road_r1 (K : PySem.W.Frag) (s_drives_of : Sp) (s_is_least : Sp) : TS :=
  tRet (tC .non)
def t_first_road (K : PySem.W.Frag) (s_drives_of : Sp) (s_is_least : Sp) : TS :=
  tSeq (tAsg (tIdx K (tOp (uIx K) (tVar 0) (tC (.int 0))) (tCons (tVar 3) (tNil))) (gName 5)) (tSeq (tAsg (tOp (uIx K) (tVar 2) (tIdx K (tOp (uIx K) (tVar 0) (tC (.int 0))) (tCons (tVar 4) (tNil)))) (gName 6)) (tSeq (tFor (iU K (tGo s_drives_of E0 (tCons (tVar 0) (tCons (tVar 1) (tNil))))) (gName 7) (t_first_road_b1 K s_drives_of s_is_least)) (t_first_road_r1 K s_drives_of s_is_least)))
theorem dv_first_road {P : Program} {w : World} {K : PySem.W.Frag} {mg : Str → Option Value} {b : Heap} {a : Addr} {d : FuncData} {sp : Sp} (F : Fn K mg "first_road" s_first_road_ a d ["town", "shut", "chart", "one", "other"])
    {a_drives_of : Addr} {d_drives_of : FuncData} {s_drives_of : Sp} (F_drives_of : Fn K mg "drives_of" s_drives_of_ a_drives_of d_drives_of ["town", "shut"]) (k_drives_of : Keeps P w K mg b CX0 2 a_drives_of d_drives_of ["town", "shut"] s_drives_of)
    {a_is_least : Addr} {d_is_least : FuncData} {s_is_least : Sp} (F_is_least : Fn K mg "is_least" s_is_least_ a_is_least d_is_least ["row", "drive"]) (k_is_least : Keeps P w K mg b CX0 2 a_is_least d_is_least ["row", "drive"] s_is_least)
    (len : ∀ vs H Q E, sp vs H Q E → vs.length = 5)
    (rd : ∀ vs H Q E, sp vs H Q E → run (t_first_road K s_drives_of s_is_least) (start N_first_road vs) H Q) : Keeps P w K mg b CX0 3 a d ["town", "shut", "chart", "one", "other"] sp := by
  refine keeps0 F.fn sc_first_road len fun cdv A o s H vs Q E hr h => ⟨t_first_road K s_drives_of s_is_least, ?_, rd vs H Q E h⟩
  unfold t_first_road t_first_road_r1 t_first_road_b1
  exact (pss_cons (ps_set (i := 5) sc_first_road.nd rfl (.inl rfl) (pe_idx (pe_ix ix_u (pv 0) pe_int (fun _ _ => rfl)) (pa_cons (pv 3) pa_nil)))
  (pss_cons (ps_set (i := 6) sc_first_road.nd rfl (.inl rfl) (pe_ix ix_u (pv 2) (pe_idx (pe_ix ix_u (pv 0) pe_int (fun _ _ => rfl)) (pa_cons (pv 4) pa_nil)) (fun _ _ => rfl)))
  (pss_cons (ps_for PassesOwn.never rfl (pi_u (pe_go k_drives_of (hr.mono (by decide)) rfl F_drives_of.g F_drives_of.fn.kp F_drives_of.b pass0 (pa_cons (pv 0) (pa_cons (pv 1) pa_nil)))) (pg_name (i := 7) sc_first_road.nd rfl (.inl rfl)) (pss_one (ps_if (PW.pt (pw_and (pt_cmpR (op_uEq hr.rm.units) (pe_ix ix_u (pv 7) pe_int (fun _ _ => rfl)) (pv 5) (nomark _)) (pw_and1 (pt_tru (pe_go k_is_least (hr.mono (by decide)) rfl F_is_least.g F_is_least.fn.kp F_is_least.b pass0 (pa_cons (pv 6) (pa_cons (pv 7) pa_nil))))))) (pss_one (ps_ret (pe_ix ix_u (pv 7) pe_int (fun _ _ => rfl)))) pss_nil)))
  (pss_one (ps_ret pe_non)))))

abbrev s_led_to_ : Stmt := topS 22
abbrev N_led_to : List Str := ["town", "number", "place", "one", "other", "there", "back"]
theorem sc_led_to : FnScope N_led_to ["town", "number", "place"] (defScope s_led_to_) := ⟨rfl, rfl, rfl, by decide +kernel, rfl, by decide +kernel, by decide +kernel⟩
def t_led_to_r1 (K : PySem.W.Frag) : TS :=
  tRet (tC .non)
def t_led_to_r2 (K : PySem.W.Frag) : TS :=
  tSeq (tIfS (tAnd (tTest (tOp (uEq K false) (tVar 2) (tVar 4))) (tTest (tOp rNotN (tVar 6) (tC .non)))) (tRet (tTupU (tCons (tVar 3) (tCons (tVar 6) (tNil))))) (tNext)) (t_led_to_r1 K)
def t_led_to (K : PySem.W.Frag) : TS :=
  tSeq (tAsg (tOp (uIx K) (tOp (uIx K) (tVar 0) (tC (.int 1))) (tVar 1)) (gTup K 4 (gCons (gName 3) (gCons (gName 4) (gCons (gName 5) (gCons (gName 6) (gNil))))))) (tSeq (tIfS (tAnd (tTest (tOp (uEq K false) (tVar 2) (tVar 3))) (tTest (tOp rNotN (tVar 5) (tC .non)))) (tRet (tTupU (tCons (tVar 4) (tCons (tVar 5) (tNil))))) (tNext)) (t_led_to_r2 K))
theorem dv_led_to {P : Program} {w : World} {K : PySem.W.Frag} {mg : Str → Option Value} {b : Heap} {a : Addr} {d : FuncData} {sp : Sp} (F : Fn K mg "led_to" s_led_to_ a d ["town", "number", "place"])
    (len : ∀ vs H Q E, sp vs H Q E → vs.length = 3)
    (rd : ∀ vs H Q E, sp vs H Q E → run (t_led_to K) (start N_led_to vs) H Q) : Keeps P w K mg b CX0 2 a d ["town", "number", "place"] sp := by
  refine keeps0 F.fn sc_led_to len fun cdv A o s H vs Q E hr h => ⟨t_led_to K, ?_, rd vs H Q E h⟩
  unfold t_led_to t_led_to_r2 t_led_to_r1
  exact (pss_cons (ps_asg (pe_ix ix_u (pe_ix ix_u (pv 0) pe_int (fun _ _ => rfl)) (pv 1) (fun _ _ => rfl)) (pg_tup rfl (pgs_cons (pg_name (i := 3) sc_led_to.nd rfl (.inl rfl)) (pgs_cons (pg_name (i := 4) sc_led_to.nd rfl (.inl rfl)) (pgs_cons (pg_name (i := 5) sc_led_to.nd rfl (.inl rfl)) (pgs_cons (pg_name (i := 6) sc_led_to.nd rfl (.inl rfl)) pgs_nil))))))
  (pss_cons (ps_if (PW.pt (pw_and (pt_cmpR (op_uEq hr.rm.units) (pv 2) (pv 3) (nomark _)) (pw_and1 (pt_cmpR op_notN (pv 5) pe_non (nomark _))))) (pss_one (ps_ret (pe_tupU (pa_cons (pv 4) (pa_cons (pv 5) pa_nil))))) pss_nil)
  (pss_cons (ps_if (PW.pt (pw_and (pt_cmpR (op_uEq hr.rm.units) (pv 2) (pv 4) (nomark _)) (pw_and1 (pt_cmpR op_notN (pv 6) pe_non (nomark _))))) (pss_one (ps_ret (pe_tupU (pa_cons (pv 3) (pa_cons (pv 6) pa_nil))))) pss_nil)
  (pss_one (ps_ret pe_non)))))

abbrev s_way_ : Stmt := topS 19
abbrev N_way : List Str := ["town", "shut", "one", "other", "chart", "numbers", "place", "number"]
theorem sc_way : FnScope N_way ["town", "shut", "one", "other"] (defScope s_way_) := ⟨rfl, rfl, rfl, by decide +kernel, rfl, by decide +kernel, by decide +kernel⟩
def t_way_r1 (K : PySem.W.Frag) (s_chart_of : Sp) (s_first_road : Sp) (s_led_to : Sp) : TS :=
  tSeq (tDrop (tBM K "list" uAppend (tVar 5) (tCons (tVar 7) (tNil)))) (tAsg (tOp (uIx K) (tGo s_led_to E0 (tCons (tVar 0) (tCons (tVar 7) (tCons (tVar 6) (tNil))))) (tC (.int 0))) (gName 6))
def t_way_r2 (K : PySem.W.Frag) (s_chart_of : Sp) (s_first_road : Sp) (s_led_to : Sp) : TS :=
  tRet (tCB (uTuple K) (tCons (tVar 5) (tNil)))
def t_way (K : PySem.W.Frag) (s_chart_of : Sp) (s_first_road : Sp) (s_led_to : Sp) : TS :=
  tSeq (tAsg (tGo s_chart_of E0 (tCons (tVar 0) (tCons (tVar 1) (tNil)))) (gName 4)) (tSeq (tAsg (tLstU (tNil)) (gName 5)) (tSeq (tAsg (tVar 2) (gName 6)) (tSeq (tWhile (tTest (tOp (uEq K true) (tVar 6) (tVar 3))) (tSeq (tAsg (tGo s_first_road E0 (tCons (tVar 0) (tCons (tVar 1) (tCons (tVar 4) (tCons (tVar 6) (tCons (tVar 3) (tNil))))))) (gName 7)) (tSeq (tIfS (tTest (tOp rIsN (tVar 7) (tC .non))) (tRet (tC .non)) (tNext)) (t_way_r1 K s_chart_of s_first_road s_led_to)))) (t_way_r2 K s_chart_of s_first_road s_led_to))))
theorem dv_way {P : Program} {w : World} {K : PySem.W.Frag} {mg : Str → Option Value} {b : Heap} {a : Addr} {d : FuncData} {sp : Sp} (F : Fn K mg "way" s_way_ a d ["town", "shut", "one", "other"])
    {a_chart_of : Addr} {d_chart_of : FuncData} {s_chart_of : Sp} (F_chart_of : Fn K mg "chart_of" s_chart_of_ a_chart_of d_chart_of ["town", "shut"]) (k_chart_of : Keeps P w K mg b CX0 4 a_chart_of d_chart_of ["town", "shut"] s_chart_of)
    {a_first_road : Addr} {d_first_road : FuncData} {s_first_road : Sp} (F_first_road : Fn K mg "first_road" s_first_road_ a_first_road d_first_road ["town", "shut", "chart", "one", "other"]) (k_first_road : Keeps P w K mg b CX0 3 a_first_road d_first_road ["town", "shut", "chart", "one", "other"] s_first_road)
    {a_led_to : Addr} {d_led_to : FuncData} {s_led_to : Sp} (F_led_to : Fn K mg "led_to" s_led_to_ a_led_to d_led_to ["town", "number", "place"]) (k_led_to : Keeps P w K mg b CX0 2 a_led_to d_led_to ["town", "number", "place"] s_led_to)
    (n_tuple : mg "tuple" = none)
    (len : ∀ vs H Q E, sp vs H Q E → vs.length = 4)
    (rd : ∀ vs H Q E, sp vs H Q E → run (t_way K s_chart_of s_first_road s_led_to) (start N_way vs) H Q) : Keeps P w K mg b CX0 5 a d ["town", "shut", "one", "other"] sp := by
  refine keeps0 F.fn sc_way len fun cdv A o s H vs Q E hr h => ⟨t_way K s_chart_of s_first_road s_led_to, ?_, rd vs H Q E h⟩
  unfold t_way t_way_r2 t_way_r1
  exact (pss_cons (ps_set (i := 4) sc_way.nd rfl (.inl rfl) (pe_go k_chart_of (hr.mono (by decide)) rfl F_chart_of.g F_chart_of.fn.kp F_chart_of.b pass0 (pa_cons (pv 0) (pa_cons (pv 1) pa_nil))))
  (pss_cons (ps_set (i := 5) sc_way.nd rfl (.inl rfl) (pe_lstU pa_nil))
  (pss_cons (ps_set (i := 6) sc_way.nd rfl (.inl rfl) (pv 2))
  (pss_cons (ps_while PassesOwn.never (pt_cmpR (op_uNe hr.rm.units) (pv 6) (pv 3) (nomark _)) (pss_cons (ps_set (i := 7) sc_way.nd rfl (.inl rfl) (pe_go k_first_road (hr.mono (by decide)) rfl F_first_road.g F_first_road.fn.kp F_first_road.b pass0 (pa_cons (pv 0) (pa_cons (pv 1) (pa_cons (pv 4) (pa_cons (pv 6) (pa_cons (pv 3) pa_nil)))))))
  (pss_cons (ps_if (pt_cmpR op_isN (pv 7) pe_non (nomark _)) (pss_one (ps_ret pe_non)) pss_nil)
  (pss_cons (ps_expr (pe_bm PySem.F.plainAttrs_list PySem.F.slot_list_append PySem.F.type_list_append mt_uAppend (pv 5) (pa_cons (pv 7) pa_nil)))
  (pss_one (ps_set (i := 6) sc_way.nd rfl (.inl rfl) (pe_ix ix_u (pe_go k_led_to (hr.mono (by decide)) rfl F_led_to.g F_led_to.fn.kp F_led_to.b pass0 (pa_cons (pv 0) (pa_cons (pv 7) (pa_cons (pv 6) pa_nil)))) pe_int (fun _ _ => rfl))))))))
  (pss_one (ps_ret (pe_callTy call_uTuple (by rfl) n_tuple (by decide +kernel) (pa_cons (pv 5) pa_nil))))))))

abbrev s_is_way_ : Stmt := topS 20
abbrev N_is_way : List Str := ["town", "shut", "one", "other", "thing", "place", "number", "led"]
theorem sc_is_way : FnScope N_is_way ["town", "shut", "one", "other", "thing"] (defScope s_is_way_) := ⟨rfl, rfl, rfl, by decide +kernel, rfl, by decide +kernel, by decide +kernel⟩
def t_is_way_r1 (K : PySem.W.Frag) (s_is_within : Sp) (s_led_to : Sp) : TS :=
  tAsg (tOp (uIx K) (tVar 7) (tC (.int 0))) (gName 5)
def t_is_way_r2 (K : PySem.W.Frag) (s_is_within : Sp) (s_led_to : Sp) : TS :=
  tSeq (tAsg (tGo s_led_to E0 (tCons (tVar 0) (tCons (tVar 6) (tCons (tVar 5) (tNil))))) (gName 7)) (tSeq (tIfS (tTest (tOp rIsN (tVar 7) (tC .non))) (tRet (tC (.bl false))) (tNext)) (t_is_way_r1 K s_is_within s_led_to))
def t_is_way_b1 (K : PySem.W.Frag) (s_is_within : Sp) (s_led_to : Sp) : TS :=
  tSeq (tIfS (tOr (tNot (tTru K (tGo s_is_within E0 (tCons (tVar 6) (tCons (tC (.int 0)) (tCons (tOp (rI0 fun i j => .int (i - j)) (tCB (uLen K) (tCons (tOp (uIx K) (tVar 0) (tC (.int 1))) (tNil))) (tC (.int 1))) (tNil))))))) (tTest (tOp (uIn K false) (tVar 6) (tVar 1)))) (tRet (tC (.bl false))) (tNext)) (t_is_way_r2 K s_is_within s_led_to)
def t_is_way_r3 (K : PySem.W.Frag) (s_is_within : Sp) (s_led_to : Sp) : TS :=
  tRet (tOp (uEq K false) (tVar 5) (tVar 3))
def t_is_way_r4 (K : PySem.W.Frag) (s_is_within : Sp) (s_led_to : Sp) : TS :=
  tSeq (tAsg (tVar 2) (gName 5)) (tSeq (tFor (iU K (tVar 4)) (gName 6) (t_is_way_b1 K s_is_within s_led_to)) (t_is_way_r3 K s_is_within s_led_to))
def t_is_way (K : PySem.W.Frag) (s_is_within : Sp) (s_led_to : Sp) : TS :=
  tSeq (tIfS (tNot (tTru K (tCB (rIsi K) (tCons (tVar 4) (tCons (tC (.ty "tuple")) (tNil)))))) (tRet (tC (.bl false))) (tNext)) (t_is_way_r4 K s_is_within s_led_to)
theorem dv_is_way {P : Program} {w : World} {K : PySem.W.Frag} {mg : Str → Option Value} {b : Heap} {a : Addr} {d : FuncData} {sp : Sp} (F : Fn K mg "is_way" s_is_way_ a d ["town", "shut", "one", "other", "thing"])
    (n_isinstance : mg "isinstance" = none)
    (n_tuple : mg "tuple" = none)
    {a_is_within : Addr} {d_is_within : FuncData} {s_is_within : Sp} (F_is_within : Fn K mg "is_within" s_is_within_ a_is_within d_is_within ["thing", "least", "most"]) (k_is_within : Keeps P w K mg b CX0 3 a_is_within d_is_within ["thing", "least", "most"] s_is_within)
    (n_len : mg "len" = none)
    {a_led_to : Addr} {d_led_to : FuncData} {s_led_to : Sp} (F_led_to : Fn K mg "led_to" s_led_to_ a_led_to d_led_to ["town", "number", "place"]) (k_led_to : Keeps P w K mg b CX0 2 a_led_to d_led_to ["town", "number", "place"] s_led_to)
    (len : ∀ vs H Q E, sp vs H Q E → vs.length = 5)
    (rd : ∀ vs H Q E, sp vs H Q E → run (t_is_way K s_is_within s_led_to) (start N_is_way vs) H Q) : Keeps P w K mg b CX0 4 a d ["town", "shut", "one", "other", "thing"] sp := by
  refine keeps0 F.fn sc_is_way len fun cdv A o s H vs Q E hr h => ⟨t_is_way K s_is_within s_led_to, ?_, rd vs H Q E h⟩
  unfold t_is_way t_is_way_r4 t_is_way_r3 t_is_way_b1 t_is_way_r2 t_is_way_r1
  exact (pss_cons (ps_if (pt_not (pt_tru (pe_callB call_isi (by rfl) n_isinstance (by decide +kernel) (pa_cons (pv 4) (pa_cons (pe_bltn (v := .ty "tuple") (by rfl) n_tuple (by decide +kernel) rfl) pa_nil))))) (pss_one (ps_ret pe_bl)) pss_nil)
  (pss_cons (ps_set (i := 5) sc_is_way.nd rfl (.inl rfl) (pv 2))
  (pss_cons (ps_for PassesOwn.never rfl (pi_u (pv 4)) (pg_name (i := 6) sc_is_way.nd rfl (.inl rfl)) (pss_cons (ps_if (PW.pt (pw_or (pt_not (pt_tru (pe_go k_is_within (hr.mono (by decide)) rfl F_is_within.g F_is_within.fn.kp F_is_within.b pass0 (pa_cons (pv 6) (pa_cons pe_int (pa_cons (pe_op op_sub (pe_callB call_uLen (by rfl) n_len (by decide +kernel) (pa_cons (pe_ix ix_u (pv 0) pe_int (fun _ _ => rfl)) pa_nil)) pe_int) pa_nil)))))) (pw_or1 (pt_cmpR op_uIn (pv 6) (pv 1) rfl)))) (pss_one (ps_ret pe_bl)) pss_nil)
  (pss_cons (ps_set (i := 7) sc_is_way.nd rfl (.inl rfl) (pe_go k_led_to (hr.mono (by decide)) rfl F_led_to.g F_led_to.fn.kp F_led_to.b pass0 (pa_cons (pv 0) (pa_cons (pv 6) (pa_cons (pv 5) pa_nil)))))
  (pss_cons (ps_if (pt_cmpR op_isN (pv 7) pe_non (nomark _)) (pss_one (ps_ret pe_bl)) pss_nil)
  (pss_one (ps_set (i := 5) sc_is_way.nd rfl (.inl rfl) (pe_ix ix_u (pv 7) pe_int (fun _ _ => rfl))))))))
  (pss_one (ps_ret (pe_cmpR (op_uEq hr.rm.units) (pv 5) (pv 3) (nomark _)))))))

abbrev s_minutes_of_ : Stmt := topS 21
abbrev N_minutes_of : List Str := ["town", "one", "roads", "total", "place", "number", "minutes"]
theorem sc_minutes_of : FnScope N_minutes_of ["town", "one", "roads"] (defScope s_minutes_of_) := ⟨rfl, rfl, rfl, by decide +kernel, rfl, by decide +kernel, by decide +kernel⟩
def t_minutes_of_b1 (K : PySem.W.Frag) (s_led_to : Sp) : TS :=
  tSeq (tAsg (tGo s_led_to E0 (tCons (tVar 0) (tCons (tVar 5) (tCons (tVar 4) (tNil))))) (gTup K 2 (gCons (gName 4) (gCons (gName 6) (gNil))))) (tAug 3 (tVar 6) (ipI fun i j => i + j))
def t_minutes_of_r1 (K : PySem.W.Frag) (s_led_to : Sp) : TS :=
  tRet (tVar 3)
def t_minutes_of (K : PySem.W.Frag) (s_led_to : Sp) : TS :=
  tSeq (tAsg (tC (.int 0)) (gName 3)) (tSeq (tAsg (tVar 1) (gName 4)) (tSeq (tFor (iU K (tVar 2)) (gName 5) (t_minutes_of_b1 K s_led_to)) (t_minutes_of_r1 K s_led_to)))
theorem dv_minutes_of {P : Program} {w : World} {K : PySem.W.Frag} {mg : Str → Option Value} {b : Heap} {a : Addr} {d : FuncData} {sp : Sp} (F : Fn K mg "minutes_of" s_minutes_of_ a d ["town", "one", "roads"])
    {a_led_to : Addr} {d_led_to : FuncData} {s_led_to : Sp} (F_led_to : Fn K mg "led_to" s_led_to_ a_led_to d_led_to ["town", "number", "place"]) (k_led_to : Keeps P w K mg b CX0 2 a_led_to d_led_to ["town", "number", "place"] s_led_to)
    (len : ∀ vs H Q E, sp vs H Q E → vs.length = 3)
    (rd : ∀ vs H Q E, sp vs H Q E → run (t_minutes_of K s_led_to) (start N_minutes_of vs) H Q) : Keeps P w K mg b CX0 3 a d ["town", "one", "roads"] sp := by
  refine keeps0 F.fn sc_minutes_of len fun cdv A o s H vs Q E hr h => ⟨t_minutes_of K s_led_to, ?_, rd vs H Q E h⟩
  unfold t_minutes_of t_minutes_of_r1 t_minutes_of_b1
  exact (pss_cons (ps_set (i := 3) sc_minutes_of.nd rfl (.inl rfl) pe_int)
  (pss_cons (ps_set (i := 4) sc_minutes_of.nd rfl (.inl rfl) (pv 1))
  (pss_cons (ps_for PassesOwn.never rfl (pi_u (pv 2)) (pg_name (i := 5) sc_minutes_of.nd rfl (.inl rfl)) (pss_cons (ps_asg (pe_go k_led_to (hr.mono (by decide)) rfl F_led_to.g F_led_to.fn.kp F_led_to.b pass0 (pa_cons (pv 0) (pa_cons (pv 5) (pa_cons (pv 4) pa_nil)))) (pg_tup rfl (pgs_cons (pg_name (i := 4) sc_minutes_of.nd rfl (.inl rfl)) (pgs_cons (pg_name (i := 6) sc_minutes_of.nd rfl (.inl rfl)) pgs_nil))))
  (pss_one (ps_aug (i := 3) sc_minutes_of.nd rfl (.inl rfl) (pv 6) ip_add))))
  (pss_one (ps_ret (pv 3))))))

abbrev s__is_row_ : Stmt := topS 30
abbrev N__is_row : List Str := ["thing", "many", "minutes"]
theorem sc__is_row : FnScope N__is_row ["thing", "many"] (defScope s__is_row_) := ⟨rfl, rfl, rfl, by decide +kernel, rfl, by decide +kernel, by decide +kernel⟩
def t__is_row_r1 (K : PySem.W.Frag) (s_is_whole : Sp) (P__is_row : Addr) : TS :=
  tRet (tGen P__is_row (iU K (tVar 0)) (gName 2) (tYes) (tOrT K (tOp rIsN (tVar 2) (tC .non)) (tAndT K (tGo s_is_whole E0 (tCons (tVar 2) (tNil))) (tOp (rI0 fun i j => .bl (decide (j ≤ i))) (tVar 2) (tC (.int 0))))) [2] false)
def t__is_row (K : PySem.W.Frag) (s_is_whole : Sp) (P__is_row : Addr) : TS :=
  tSeq (tIfS (tOr (tNot (tTru K (tCB (rIsi K) (tCons (tVar 0) (tCons (tC (.ty "tuple")) (tNil)))))) (tTest (tOp (uEq K true) (tCB (uLen K) (tCons (tVar 0) (tNil))) (tVar 1)))) (tRet (tC (.bl false))) (tNext)) (t__is_row_r1 K s_is_whole P__is_row)
theorem dv__is_row {P : Program} {w : World} {K : PySem.W.Frag} {mg : Str → Option Value} {b : Heap} {a : Addr} {d : FuncData} {sp : Sp} (F : Fn K mg "_is_row" s__is_row_ a d ["thing", "many"])
    {tc__is_row P__is_row : Addr} (hcd : d.code = .ref tc__is_row) (TB : GxR.TabB b mg tc__is_row P__is_row)
    (n_isinstance : mg "isinstance" = none)
    (n_tuple : mg "tuple" = none)
    (n_len : mg "len" = none)
    (n_all : mg "all" = none)
    {a_is_whole : Addr} {d_is_whole : FuncData} {s_is_whole : Sp} (F_is_whole : Fn K mg "is_whole" s_is_whole_ a_is_whole d_is_whole ["thing"]) (k_is_whole : Keeps P w K mg b CX0 2 a_is_whole d_is_whole ["thing"] s_is_whole)
    (len : ∀ vs H Q E, sp vs H Q E → vs.length = 2)
    (rd : ∀ vs H Q E, sp vs H Q E → run (t__is_row K s_is_whole P__is_row) (start N__is_row vs) H Q) : Keeps P w K mg b CX0 4 a d ["thing", "many"] sp := by
  refine keepsT F.fn hcd sc__is_row len fun A o s H vs Q E hr h => ⟨t__is_row K s_is_whole P__is_row, ?_, rd vs H Q E h⟩
  unfold t__is_row t__is_row_r1
  exact (pss_cons (ps_if (PW.pt (pw_or (pt_not (pt_tru (pe_callB call_isi (by rfl) n_isinstance (by decide +kernel) (pa_cons (pv 0) (pa_cons (pe_bltn (v := .ty "tuple") (by rfl) n_tuple (by decide +kernel) rfl) pa_nil))))) (pw_or1 (pt_cmpR (op_uNe hr.rm.units) (pe_callB call_uLen (by rfl) n_len (by decide +kernel) (pa_cons (pv 0) pa_nil)) (pv 1) (nomark _))))) (pss_one (ps_ret pe_bl)) pss_nil)
  (pss_one (ps_ret (pe_allG (own := [("minutes", 2)]) hr TB (by rfl) rfl sc__is_row.nd ⟨blkOk_by (own := [("minutes", 2)]) (N := N__is_row) (sc := defScope s__is_row_) (by decide +kernel), by decide +kernel, by rfl, by rfl⟩ (by rfl) n_all (pi_u (pv 0)) (fun _ _ _ _ _ _ hr => (pg_name (i := 2) sc__is_row.nd rfl (.inl rfl))) (fun _ _ _ _ _ _ _ => pts_nil) (fun _ _ _ _ _ _ hr => (pe_orT (pe_cmpR op_isN (pv 2) pe_non (nomark _)) (pe_one (pe_andT (pe_go k_is_whole (hr.mono (by decide)) rfl F_is_whole.g F_is_whole.fn.kp F_is_whole.b pass0 (pa_cons (pv 2) pa_nil)) (pe_one (pe_cmpR op_ge (pv 2) pe_int (nomark _)))))))))))

abbrev s__has_shape_ : Stmt := topS 29
abbrev N__has_shape : List Str := ["thing", "many", "row"]
theorem sc__has_shape : FnScope N__has_shape ["thing", "many"] (defScope s__has_shape_) := ⟨rfl, rfl, rfl, by decide +kernel, rfl, by decide +kernel, by decide +kernel⟩
def t__has_shape_r1 (K : PySem.W.Frag) (s__is_row : Sp) (P__has_shape : Addr) : TS :=
  tRet (tGen P__has_shape (iU K (tVar 0)) (gName 2) (tYes) (tGo s__is_row E0 (tCons (tVar 2) (tCons (tVar 1) (tNil)))) [2] false)
def t__has_shape (K : PySem.W.Frag) (s__is_row : Sp) (P__has_shape : Addr) : TS :=
  tSeq (tIfS (tOr (tNot (tTru K (tCB (rIsi K) (tCons (tVar 0) (tCons (tC (.ty "tuple")) (tNil)))))) (tTest (tOp (uEq K true) (tCB (uLen K) (tCons (tVar 0) (tNil))) (tVar 1)))) (tRet (tC (.bl false))) (tNext)) (t__has_shape_r1 K s__is_row P__has_shape)
theorem dv__has_shape {P : Program} {w : World} {K : PySem.W.Frag} {mg : Str → Option Value} {b : Heap} {a : Addr} {d : FuncData} {sp : Sp} (F : Fn K mg "_has_shape" s__has_shape_ a d ["thing", "many"])
    {tc__has_shape P__has_shape : Addr} (hcd : d.code = .ref tc__has_shape) (TB : GxR.TabB b mg tc__has_shape P__has_shape)
    (n_isinstance : mg "isinstance" = none)
    (n_tuple : mg "tuple" = none)
    (n_len : mg "len" = none)
    (n_all : mg "all" = none)
    {a__is_row : Addr} {d__is_row : FuncData} {s__is_row : Sp} (F__is_row : Fn K mg "_is_row" s__is_row_ a__is_row d__is_row ["thing", "many"]) (k__is_row : Keeps P w K mg b CX0 4 a__is_row d__is_row ["thing", "many"] s__is_row)
    (len : ∀ vs H Q E, sp vs H Q E → vs.length = 2)
    (rd : ∀ vs H Q E, sp vs H Q E → run (t__has_shape K s__is_row P__has_shape) (start N__has_shape vs) H Q) : Keeps P w K mg b CX0 6 a d ["thing", "many"] sp := by
  refine keepsT F.fn hcd sc__has_shape len fun A o s H vs Q E hr h => ⟨t__has_shape K s__is_row P__has_shape, ?_, rd vs H Q E h⟩
  unfold t__has_shape t__has_shape_r1
  exact (pss_cons (ps_if (PW.pt (pw_or (pt_not (pt_tru (pe_callB call_isi (by rfl) n_isinstance (by decide +kernel) (pa_cons (pv 0) (pa_cons (pe_bltn (v := .ty "tuple") (by rfl) n_tuple (by decide +kernel) rfl) pa_nil))))) (pw_or1 (pt_cmpR (op_uNe hr.rm.units) (pe_callB call_uLen (by rfl) n_len (by decide +kernel) (pa_cons (pv 0) pa_nil)) (pv 1) (nomark _))))) (pss_one (ps_ret pe_bl)) pss_nil)
  (pss_one (ps_ret (pe_allG (own := [("row", 2)]) hr TB (by rfl) rfl sc__has_shape.nd ⟨blkOk_by (own := [("row", 2)]) (N := N__has_shape) (sc := defScope s__has_shape_) (by decide +kernel), by decide +kernel, by rfl, by rfl⟩ (by rfl) n_all (pi_u (pv 0)) (fun _ _ _ _ _ _ hr => (pg_name (i := 2) sc__has_shape.nd rfl (.inl rfl))) (fun _ _ _ _ _ _ _ => pts_nil) (fun _ _ _ _ _ _ hr => (pe_go k__is_row (hr.mono (by decide)) rfl F__is_row.g F__is_row.fn.kp F__is_row.b pass0 (pa_cons (pv 2) (pa_cons (pv 1) pa_nil))))))))

abbrev s__leads_on_ : Stmt := topS 32
abbrev N__leads_on : List Str := ["row", "drives", "drive"]
theorem sc__leads_on : FnScope N__leads_on ["row", "drives"] (defScope s__leads_on_) := ⟨rfl, rfl, rfl, by decide +kernel, rfl, by decide +kernel, by decide +kernel⟩
def t__leads_on (K : PySem.W.Frag) (s_is_least : Sp) (P__leads_on : Addr) : TS :=
  tRet (tGen P__leads_on (iU K (tVar 1)) (gName 2) (tYes) (tGo s_is_least E0 (tCons (tVar 0) (tCons (tVar 2) (tNil)))) [2] true)
theorem dv__leads_on {P : Program} {w : World} {K : PySem.W.Frag} {mg : Str → Option Value} {b : Heap} {a : Addr} {d : FuncData} {sp : Sp} (F : Fn K mg "_leads_on" s__leads_on_ a d ["row", "drives"])
    {tc__leads_on P__leads_on : Addr} (hcd : d.code = .ref tc__leads_on) (TB : GxR.TabB b mg tc__leads_on P__leads_on)
    (n_any : mg "any" = none)
    {a_is_least : Addr} {d_is_least : FuncData} {s_is_least : Sp} (F_is_least : Fn K mg "is_least" s_is_least_ a_is_least d_is_least ["row", "drive"]) (k_is_least : Keeps P w K mg b CX0 2 a_is_least d_is_least ["row", "drive"] s_is_least)
    (len : ∀ vs H Q E, sp vs H Q E → vs.length = 2)
    (rd : ∀ vs H Q E, sp vs H Q E → run (t__leads_on K s_is_least P__leads_on) (start N__leads_on vs) H Q) : Keeps P w K mg b CX0 4 a d ["row", "drives"] sp := by
  refine keepsT F.fn hcd sc__leads_on len fun A o s H vs Q E hr h => ⟨t__leads_on K s_is_least P__leads_on, ?_, rd vs H Q E h⟩
  unfold t__leads_on 
  exact (pss_one (ps_ret (pe_anyG (own := [("drive", 2)]) hr TB (by rfl) rfl sc__leads_on.nd ⟨blkOk_by (own := [("drive", 2)]) (N := N__leads_on) (sc := defScope s__leads_on_) (by decide +kernel), by decide +kernel, by rfl, by rfl⟩ (by rfl) n_any (pi_u (pv 1)) (fun _ _ _ _ _ _ hr => (pg_name (i := 2) sc__leads_on.nd rfl (.inl rfl))) (fun _ _ _ _ _ _ _ => pts_nil) (fun _ _ _ _ _ _ hr => (pe_go k_is_least (hr.mono (by decide)) rfl F_is_least.g F_is_least.fn.kp F_is_least.b pass0 (pa_cons (pv 0) (pa_cons (pv 2) pa_nil)))))))

abbrev s__is_slack_ : Stmt := topS 31
abbrev N__is_slack : List Str := ["drives", "chart", "place", "drives_from", "goal", "row", "drive"]
theorem sc__is_slack : FnScope N__is_slack ["drives", "chart", "place"] (defScope s__is_slack_) := ⟨rfl, rfl, rfl, by decide +kernel, rfl, by decide +kernel, by decide +kernel⟩
def t__is_slack_b1 (K : PySem.W.Frag) (s__leads_on : Sp) : TS :=
  tIfS (tAnd (tTest (tOp (uEq K true) (tVar 4) (tVar 2))) (tAnd (tTest (tOp rNotN (tOp (uIx K) (tVar 5) (tVar 2)) (tC .non))) (tNot (tTru K (tGo s__leads_on E0 (tCons (tVar 5) (tCons (tVar 3) (tNil)))))))) (tRet (tC (.bl true))) (tNext)
def t__is_slack_r1 (K : PySem.W.Frag) (s__leads_on : Sp) : TS :=
  tRet (tC (.bl false))
def t__is_slack (K : PySem.W.Frag) (s__leads_on : Sp) : TS :=
  tSeq (tAsg (tLc (iU K (tVar 0)) (gName 6) (tTest (tOp (uEq K false) (tOp (uIx K) (tVar 6) (tC (.int 1))) (tVar 2))) (tVar 6) [6]) (gName 3)) (tSeq (tFor (iEnumU K (tCons (tVar 1) (tNil))) (gTup K 2 (gCons (gName 4) (gCons (gName 5) (gNil)))) (t__is_slack_b1 K s__leads_on)) (t__is_slack_r1 K s__leads_on))
theorem dv__is_slack {P : Program} {w : World} {K : PySem.W.Frag} {mg : Str → Option Value} {b : Heap} {a : Addr} {d : FuncData} {sp : Sp} (F : Fn K mg "_is_slack" s__is_slack_ a d ["drives", "chart", "place"])
    (n_enumerate : mg "enumerate" = none)
    {a__leads_on : Addr} {d__leads_on : FuncData} {s__leads_on : Sp} (F__leads_on : Fn K mg "_leads_on" s__leads_on_ a__leads_on d__leads_on ["row", "drives"]) (k__leads_on : Keeps P w K mg b CX0 4 a__leads_on d__leads_on ["row", "drives"] s__leads_on)
    (len : ∀ vs H Q E, sp vs H Q E → vs.length = 3)
    (rd : ∀ vs H Q E, sp vs H Q E → run (t__is_slack K s__leads_on) (start N__is_slack vs) H Q) : Keeps P w K mg b CX0 5 a d ["drives", "chart", "place"] sp := by
  refine keeps0 F.fn sc__is_slack len fun cdv A o s H vs Q E hr h => ⟨t__is_slack K s__leads_on, ?_, rd vs H Q E h⟩
  unfold t__is_slack t__is_slack_r1 t__is_slack_b1
  exact (pss_cons (ps_setLc (i := 3) (own := [("drive", 6)]) rfl sc__is_slack.nd rfl rfl (sw_true rfl rfl rfl (by decide +kernel)) (pi_u (pv 0)) (blkOk_by (own := [("drive", 6)]) (N := N__is_slack) (sc := defScope s__is_slack_) (by decide +kernel)) (fun _ _ _ _ _ => (pg_name (i := 6) sc__is_slack.nd rfl (.inl rfl))) (fun _ _ _ _ _ => (pts_one (pt_cmpR (op_uEq hr.rm.units) (pe_ix ix_u (pv 6) pe_int (fun _ _ => rfl)) (pv 2) (nomark _)))) (fun _ _ _ _ _ => (pv 6)))
  (pss_cons (ps_for PassesOwn.never rfl (pi_enumU (by rfl) n_enumerate (pa_cons (pv 1) pa_nil)) (pg_tup rfl (pgs_cons (pg_name (i := 4) sc__is_slack.nd rfl (.inl rfl)) (pgs_cons (pg_name (i := 5) sc__is_slack.nd rfl (.inl rfl)) pgs_nil))) (pss_one (ps_if (PW.pt (pw_and (pt_cmpR (op_uNe hr.rm.units) (pv 4) (pv 2) (nomark _)) (pw_and (pt_cmpR op_notN (pe_ix ix_u (pv 5) (pv 2) (fun _ _ => rfl)) pe_non (nomark _)) (pw_and1 (pt_not (pt_tru (pe_go k__leads_on (hr.mono (by decide)) rfl F__leads_on.g F__leads_on.fn.kp F__leads_on.b pass0 (pa_cons (pv 5) (pa_cons (pv 3) pa_nil))))))))) (pss_one (ps_ret pe_bl)) pss_nil)))
  (pss_one (ps_ret pe_bl))))

abbrev s_lets_chart_ : Stmt := topS 28
abbrev N_lets_chart : List Str := ["town", "shut", "thing", "goal", "row", "drives", "place", "drive"]
theorem sc_lets_chart : FnScope N_lets_chart ["town", "shut", "thing"] (defScope s_lets_chart_) := ⟨rfl, rfl, rfl, by decide +kernel, rfl, by decide +kernel, by decide +kernel⟩
def t_lets_chart_b1 (K : PySem.W.Frag) (s__has_shape : Sp) (s_drives_of : Sp) (s_is_steep : Sp) (s__is_slack : Sp) (c_NoPaper : Addr) (P_lets_chart : Addr) (E : XK) : TS :=
  tIfS (tTest (tOp (uEq K true) (tOp (uIx K) (tVar 4) (tVar 3)) (tC (.int 0)))) (tRaiseE E (tMkO c_NoPaper (spIni K c_NoPaper ["word", "at"]) [] (tCons (tC (.str "goal")) (tCons (tVar 3) (tNil))))) (tNext)
def t_lets_chart_b2 (K : PySem.W.Frag) (s__has_shape : Sp) (s_drives_of : Sp) (s_is_steep : Sp) (s__is_slack : Sp) (c_NoPaper : Addr) (P_lets_chart : Addr) (E : XK) : TS :=
  tIfS (tTru K (tGen P_lets_chart (iU K (tVar 2)) (gName 4) (tYes) (tGo s_is_steep E0 (tCons (tVar 4) (tCons (tVar 7) (tNil)))) [4] true)) (tRaiseE E (tMkO c_NoPaper (spIni K c_NoPaper ["word", "at"]) [] (tCons (tC (.str "steep")) (tCons (tOp (uIx K) (tVar 7) (tC (.int 0))) (tNil))))) (tNext)
def t_lets_chart_b3 (K : PySem.W.Frag) (s__has_shape : Sp) (s_drives_of : Sp) (s_is_steep : Sp) (s__is_slack : Sp) (c_NoPaper : Addr) (P_lets_chart : Addr) (E : XK) : TS :=
  tIfS (tTru K (tGo s__is_slack E0 (tCons (tVar 5) (tCons (tVar 2) (tCons (tVar 6) (tNil)))))) (tRaiseE E (tMkO c_NoPaper (spIni K c_NoPaper ["word", "at"]) [] (tCons (tC (.str "slack")) (tCons (tVar 6) (tNil))))) (tNext)
def t_lets_chart_r1 (K : PySem.W.Frag) (s__has_shape : Sp) (s_drives_of : Sp) (s_is_steep : Sp) (s__is_slack : Sp) (c_NoPaper : Addr) (P_lets_chart : Addr) (E : XK) : TS :=
  tRet (tC (.bl true))
def t_lets_chart_r2 (K : PySem.W.Frag) (s__has_shape : Sp) (s_drives_of : Sp) (s_is_steep : Sp) (s__is_slack : Sp) (c_NoPaper : Addr) (P_lets_chart : Addr) (E : XK) : TS :=
  tSeq (tFor (iRng1 (tCons (tCB (uLen K) (tCons (tVar 2) (tNil))) (tNil))) (gName 6) (t_lets_chart_b3 K s__has_shape s_drives_of s_is_steep s__is_slack c_NoPaper P_lets_chart E)) (t_lets_chart_r1 K s__has_shape s_drives_of s_is_steep s__is_slack c_NoPaper P_lets_chart E)
def t_lets_chart_r3 (K : PySem.W.Frag) (s__has_shape : Sp) (s_drives_of : Sp) (s_is_steep : Sp) (s__is_slack : Sp) (c_NoPaper : Addr) (P_lets_chart : Addr) (E : XK) : TS :=
  tSeq (tAsg (tGo s_drives_of E0 (tCons (tVar 0) (tCons (tVar 1) (tNil)))) (gName 5)) (tSeq (tFor (iU K (tVar 5)) (gName 7) (t_lets_chart_b2 K s__has_shape s_drives_of s_is_steep s__is_slack c_NoPaper P_lets_chart E)) (t_lets_chart_r2 K s__has_shape s_drives_of s_is_steep s__is_slack c_NoPaper P_lets_chart E))
def t_lets_chart_r4 (K : PySem.W.Frag) (s__has_shape : Sp) (s_drives_of : Sp) (s_is_steep : Sp) (s__is_slack : Sp) (c_NoPaper : Addr) (P_lets_chart : Addr) (E : XK) : TS :=
  tSeq (tFor (iEnumU K (tCons (tVar 2) (tNil))) (gTup K 2 (gCons (gName 3) (gCons (gName 4) (gNil)))) (t_lets_chart_b1 K s__has_shape s_drives_of s_is_steep s__is_slack c_NoPaper P_lets_chart E)) (t_lets_chart_r3 K s__has_shape s_drives_of s_is_steep s__is_slack c_NoPaper P_lets_chart E)
def t_lets_chart (K : PySem.W.Frag) (s__has_shape : Sp) (s_drives_of : Sp) (s_is_steep : Sp) (s__is_slack : Sp) (c_NoPaper : Addr) (P_lets_chart : Addr) (E : XK) : TS :=
  tSeq (tIfS (tNot (tTru K (tGo s__has_shape E0 (tCons (tVar 2) (tCons (tCB (uLen K) (tCons (tOp (uIx K) (tVar 0) (tC (.int 0))) (tNil))) (tNil)))))) (tRaiseE E (tMkO c_NoPaper (spIni K c_NoPaper ["word", "at"]) [] (tCons (tC (.str "shape")) (tCons (tC (.int 0)) (tNil))))) (tNext)) (t_lets_chart_r4 K s__has_shape s_drives_of s_is_steep s__is_slack c_NoPaper P_lets_chart E)
theorem dv_lets_chart {P : Program} {w : World} {K : PySem.W.Frag} {mg : Str → Option Value} {b : Heap} {a : Addr} {d : FuncData} {sp : Sp} (F : Fn K mg "lets_chart" s_lets_chart_ a d ["town", "shut", "thing"])
    {c_NoPaper : Addr}
    (g_NoPaper : mg "NoPaper" = some (.ref c_NoPaper))
    {tc_lets_chart P_lets_chart : Addr} (hcd : d.code = .ref tc_lets_chart) (TB : GxR.TabB b mg tc_lets_chart P_lets_chart)
    {a__has_shape : Addr} {d__has_shape : FuncData} {s__has_shape : Sp} (F__has_shape : Fn K mg "_has_shape" s__has_shape_ a__has_shape d__has_shape ["thing", "many"]) (k__has_shape : Keeps P w K mg b CX0 6 a__has_shape d__has_shape ["thing", "many"] s__has_shape)
    (n_len : mg "len" = none)
    {ai_NoPaper : Addr} {di_NoPaper : FuncData} (T_NoPaper : OexC K c_NoPaper) (iC_NoPaper : PySem.W.findIn K (.ref c_NoPaper) "__init__" = some (some (.ref ai_NoPaper))) (tI_NoPaper : PySem.W.typeIn K (.ref ai_NoPaper) = some (.type "function")) (bi_NoPaper : Binds K di_NoPaper ["self", "word", "at"] []) (Fi_NoPaper : FnOk P w K mg b CX0 2 ai_NoPaper di_NoPaper ["self", "word", "at"] (spIni K c_NoPaper ["word", "at"]))
    (n_enumerate : mg "enumerate" = none)
    {a_drives_of : Addr} {d_drives_of : FuncData} {s_drives_of : Sp} (F_drives_of : Fn K mg "drives_of" s_drives_of_ a_drives_of d_drives_of ["town", "shut"]) (k_drives_of : Keeps P w K mg b CX0 2 a_drives_of d_drives_of ["town", "shut"] s_drives_of)
    (n_any : mg "any" = none)
    {a_is_steep : Addr} {d_is_steep : FuncData} {s_is_steep : Sp} (F_is_steep : Fn K mg "is_steep" s_is_steep_ a_is_steep d_is_steep ["row", "drive"]) (k_is_steep : Keeps P w K mg b CX0 2 a_is_steep d_is_steep ["row", "drive"] s_is_steep)
    (n_range : mg "range" = none)
    {a__is_slack : Addr} {d__is_slack : FuncData} {s__is_slack : Sp} (F__is_slack : Fn K mg "_is_slack" s__is_slack_ a__is_slack d__is_slack ["drives", "chart", "place"]) (k__is_slack : Keeps P w K mg b CX0 5 a__is_slack d__is_slack ["drives", "chart", "place"] s__is_slack)
    (len : ∀ vs H Q E, sp vs H Q E → vs.length = 3)
    (rd : ∀ vs H Q E, sp vs H Q E → run (t_lets_chart K s__has_shape s_drives_of s_is_steep s__is_slack c_NoPaper P_lets_chart E) (start N_lets_chart vs) H Q) : Keeps P w K mg b (L2.CX P w) 8 a d ["town", "shut", "thing"] sp := by
  refine keepsTX F.fn hcd sc_lets_chart len fun A o s H vs Q E hr h => ⟨t_lets_chart K s__has_shape s_drives_of s_is_steep s__is_slack c_NoPaper P_lets_chart E, ?_, rd vs H Q E h⟩
  unfold t_lets_chart t_lets_chart_r4 t_lets_chart_r3 t_lets_chart_r2 t_lets_chart_r1 t_lets_chart_b3 t_lets_chart_b2 t_lets_chart_b1
  exact (pss_cons (ps_if (pt_not (pt_tru (pe_go k__has_shape (hr.mono (by decide)) rfl F__has_shape.g F__has_shape.fn.kp F__has_shape.b pass0 (pa_cons (pv 2) (pa_cons (pe_callB call_uLen (by rfl) n_len (by decide +kernel) (pa_cons (pe_ix ix_u (pv 0) pe_int (fun _ _ => rfl)) pa_nil)) pa_nil))))) (pss_one (ps_raiseE rfl (takes_of rfl rfl rfl rfl) (pmk_oex T_NoPaper iC_NoPaper tI_NoPaper Fi_NoPaper (hr.rm.mono (by decide)) bi_NoPaper .nil pass0 (by rfl) g_NoPaper (pa_cons pe_str (pa_cons pe_int pa_nil))))) pss_nil)
  (pss_cons (ps_for (passes_of rfl) rfl (pi_enumU (by rfl) n_enumerate (pa_cons (pv 2) pa_nil)) (pg_tup rfl (pgs_cons (pg_name (i := 3) sc_lets_chart.nd rfl (.inl rfl)) (pgs_cons (pg_name (i := 4) sc_lets_chart.nd rfl (.inl rfl)) pgs_nil))) (pss_one (ps_if (pt_cmpR (op_uNe hr.rm.units) (pe_ix ix_u (pv 4) (pv 3) (fun _ _ => rfl)) pe_int (nomark _)) (pss_one (ps_raiseE rfl (takes_of rfl rfl rfl rfl) (pmk_oex T_NoPaper iC_NoPaper tI_NoPaper Fi_NoPaper (hr.rm.mono (by decide)) bi_NoPaper .nil pass0 (by rfl) g_NoPaper (pa_cons pe_str (pa_cons (pv 3) pa_nil))))) pss_nil)))
  (pss_cons (ps_set (i := 5) sc_lets_chart.nd rfl (.inl rfl) (pe_go k_drives_of (hr.mono (by decide)) rfl F_drives_of.g F_drives_of.fn.kp F_drives_of.b pass0 (pa_cons (pv 0) (pa_cons (pv 1) pa_nil))))
  (pss_cons (ps_for (passes_of rfl) rfl (pi_u (pv 5)) (pg_name (i := 7) sc_lets_chart.nd rfl (.inr rfl)) (pss_one (ps_if (pt_tru (pe_anyG (own := [("row", 4)]) hr TB (by rfl) rfl sc_lets_chart.nd ⟨blkOk_by (own := [("row", 4)]) (N := N_lets_chart) (sc := defScope s_lets_chart_) (by decide +kernel), by decide +kernel, by rfl, by rfl⟩ (by rfl) n_any (pi_u (pv 2)) (fun _ _ _ _ _ _ hr => (pg_name (i := 4) sc_lets_chart.nd rfl (.inl rfl))) (fun _ _ _ _ _ _ _ => pts_nil) (fun _ _ _ _ _ _ hr => (pe_go k_is_steep (hr.mono (by decide)) rfl F_is_steep.g F_is_steep.fn.kp F_is_steep.b pass0 (pa_cons (pv 4) (pa_cons (pv 7) pa_nil)))))) (pss_one (ps_raiseE rfl (takes_of rfl rfl rfl rfl) (pmk_oex T_NoPaper iC_NoPaper tI_NoPaper Fi_NoPaper (hr.rm.mono (by decide)) bi_NoPaper .nil pass0 (by rfl) g_NoPaper (pa_cons pe_str (pa_cons (pe_ix ix_u (pv 7) pe_int (fun _ _ => rfl)) pa_nil))))) pss_nil)))
  (pss_cons (ps_for (passes_of rfl) rfl (pi_range1 (by rfl) n_range (pa_cons (pe_callB call_uLen (by rfl) n_len (by decide +kernel) (pa_cons (pv 2) pa_nil)) pa_nil)) (pg_name (i := 6) sc_lets_chart.nd rfl (.inl rfl)) (pss_one (ps_if (pt_tru (pe_go k__is_slack (hr.mono (by decide)) rfl F__is_slack.g F__is_slack.fn.kp F__is_slack.b pass0 (pa_cons (pv 5) (pa_cons (pv 2) (pa_cons (pv 6) pa_nil))))) (pss_one (ps_raiseE rfl (takes_of rfl rfl rfl rfl) (pmk_oex T_NoPaper iC_NoPaper tI_NoPaper Fi_NoPaper (hr.rm.mono (by decide)) bi_NoPaper .nil pass0 (by rfl) g_NoPaper (pa_cons pe_str (pa_cons (pv 6) pa_nil))))) pss_nil)))
  (pss_one (ps_ret pe_bl)))))))

abbrev s__law_cell_at_ : Stmt := topS 34
abbrev N__law_cell_at : List Str := ["script", "k"]
theorem sc__law_cell_at : FnScope N__law_cell_at ["script", "k"] (defScope s__law_cell_at_) := ⟨rfl, rfl, rfl, by decide +kernel, rfl, by decide +kernel, by decide +kernel⟩
def t__law_cell_at_r1 (K : PySem.W.Frag) : TS :=
  tRet (tC (.int 0))
def t__law_cell_at (K : PySem.W.Frag) : TS :=
  tSeq (tIfS (tTest (tOp (rI0 fun i j => .bl (decide (i < j))) (tVar 1) (tCB (uLen K) (tCons (tVar 0) (tNil))))) (tRet (tOp (uIx K) (tVar 0) (tVar 1))) (tNext)) (t__law_cell_at_r1 K)
theorem dv__law_cell_at {P : Program} {w : World} {K : PySem.W.Frag} {mg : Str → Option Value} {b : Heap} {a : Addr} {d : FuncData} {sp : Sp} (F : Fn K mg "_law_cell_at" s__law_cell_at_ a d ["script", "k"])
    (n_len : mg "len" = none)
    (len : ∀ vs H Q E, sp vs H Q E → vs.length = 2)
    (rd : ∀ vs H Q E, sp vs H Q E → run (t__law_cell_at K) (start N__law_cell_at vs) H Q) : Keeps P w K mg b CX0 2 a d ["script", "k"] sp := by
  refine keeps0 F.fn sc__law_cell_at len fun cdv A o s H vs Q E hr h => ⟨t__law_cell_at K, ?_, rd vs H Q E h⟩
  unfold t__law_cell_at t__law_cell_at_r1
  exact (pss_cons (ps_if (pt_cmpR op_lt (pv 1) (pe_callB call_uLen (by rfl) n_len (by decide +kernel) (pa_cons (pv 0) pa_nil)) (nomark _)) (pss_one (ps_ret (pe_ix ix_u (pv 0) (pv 1) (fun _ _ => rfl)))) pss_nil)
  (pss_one (ps_ret pe_int)))

abbrev s__law_row_ : Stmt := topS 35
abbrev N__law_row : List Str := ["cell", "many", "found", "number", "k"]
theorem sc__law_row : FnScope N__law_row ["cell", "many"] (defScope s__law_row_) := ⟨rfl, rfl, rfl, by decide +kernel, rfl, by decide +kernel, by decide +kernel⟩
def t__law_row_b1 (K : PySem.W.Frag) : TS :=
  tIfS (tTest (tOp (rI0 fun i j => .bl (decide (i < j))) (tCB (uAbs) (tCons (tVar 0) (tNil))) (tOp (rI CPow fun i j => .int (i ^ j.toNat)) (tC (.int 10)) (tC (.int 18))))) (tSeq (tAsg (tOp (rI (fun _ j => 0 < j) fun i j => .int (i % j)) (tOp (uAdd K) (tOp (uAdd K) (tOp uMul (tVar 3) (tC (.int 48271))) (tOp uMul (tC (.int 7)) (tVar 4))) (tC (.int 11))) (tC (.int 2147483647))) (gName 3)) (tDrop (tBM K "list" uAppend (tVar 2) (tCons (tOp (rI (fun _ j => 0 < j) fun i j => .int (i % j)) (tOp (rI CDiv fun i j => .int (i / j)) (tOp (rI (fun _ j => 0 < j) fun i j => .int (i % j)) (tOp (rI CPow fun i j => .int (i ^ j.toNat)) (tVar 3) (tC (.int 5))) (tC (.int 2147483629))) (tC (.int 3))) (tOp (rI CPow fun i j => .int (i ^ j.toNat)) (tC (.int 10)) (tC (.int 6)))) (tNil))))) (tSeq (tDrop (tBM K "list" uAppend (tVar 2) (tCons (tOp (rI (fun _ j => 0 < j) fun i j => .int (i % j)) (tVar 3) (tOp (rI CPow fun i j => .int (i ^ j.toNat)) (tC (.int 10)) (tC (.int 6)))) (tNil)))) (tAsg (tOp (rI CDiv fun i j => .int (i / j)) (tVar 3) (tOp (rI CPow fun i j => .int (i ^ j.toNat)) (tC (.int 10)) (tC (.int 6)))) (gName 3)))
def t__law_row_r1 (K : PySem.W.Frag) : TS :=
  tRet (tVar 2)
def t__law_row_r2 (K : PySem.W.Frag) : TS :=
  tSeq (tFor (iRng1 (tCons (tVar 1) (tNil))) (gName 4) (t__law_row_b1 K)) (t__law_row_r1 K)
def t__law_row (K : PySem.W.Frag) : TS :=
  tSeq (tAsg (tLstU (tNil)) (gName 2)) (tSeq (tAsg (tVar 0) (gName 3)) (tSeq (tIfS (tTest (tOp (rI0 fun i j => .bl (decide (i < j))) (tCB (uAbs) (tCons (tVar 0) (tNil))) (tOp (rI CPow fun i j => .int (i ^ j.toNat)) (tC (.int 10)) (tC (.int 18))))) (tAsg (tOp (rI (fun _ j => 0 < j) fun i j => .int (i % j)) (tVar 0) (tC (.int 2147483629))) (gName 3)) (tNext)) (t__law_row_r2 K)))
theorem dv__law_row {P : Program} {w : World} {K : PySem.W.Frag} {mg : Str → Option Value} {b : Heap} {a : Addr} {d : FuncData} {sp : Sp} (F : Fn K mg "_law_row" s__law_row_ a d ["cell", "many"])
    (n_abs : mg "abs" = none)
    (n_range : mg "range" = none)
    (len : ∀ vs H Q E, sp vs H Q E → vs.length = 2)
    (rd : ∀ vs H Q E, sp vs H Q E → run (t__law_row K) (start N__law_row vs) H Q) : Keeps P w K mg b CX0 2 a d ["cell", "many"] sp := by
  refine keeps0 F.fn sc__law_row len fun cdv A o s H vs Q E hr h => ⟨t__law_row K, ?_, rd vs H Q E h⟩
  unfold t__law_row t__law_row_r2 t__law_row_r1 t__law_row_b1
  exact (pss_cons (ps_set (i := 2) sc__law_row.nd rfl (.inl rfl) (pe_lstU pa_nil))
  (pss_cons (ps_set (i := 3) sc__law_row.nd rfl (.inl rfl) (pv 0))
  (pss_cons (ps_if (pt_cmpR op_lt (pe_callB call_uAbs (by rfl) n_abs (by decide +kernel) (pa_cons (pv 0) pa_nil)) (pe_op op_pow pe_int pe_int) (nomark _)) (pss_one (ps_set (i := 3) sc__law_row.nd rfl (.inl rfl) (pe_op op_mod (pv 0) pe_int))) pss_nil)
  (pss_cons (ps_for PassesOwn.never rfl (pi_range1 (by rfl) n_range (pa_cons (pv 1) pa_nil)) (pg_name (i := 4) sc__law_row.nd rfl (.inl rfl)) (pss_one (ps_if (pt_cmpR op_lt (pe_callB call_uAbs (by rfl) n_abs (by decide +kernel) (pa_cons (pv 0) pa_nil)) (pe_op op_pow pe_int pe_int) (nomark _)) (pss_cons (ps_set (i := 3) sc__law_row.nd rfl (.inl rfl) (pe_op op_mod (pe_op op_uAdd (pe_op op_uAdd (pe_op op_uMul (pv 3) pe_int) (pe_op op_uMul pe_int (pv 4))) pe_int) pe_int))
  (pss_one (ps_expr (pe_bm PySem.F.plainAttrs_list PySem.F.slot_list_append PySem.F.type_list_append mt_uAppend (pv 2) (pa_cons (pe_op op_mod (pe_op op_fdiv (pe_op op_mod (pe_op op_pow (pv 3) pe_int) pe_int) pe_int) (pe_op op_pow pe_int pe_int)) pa_nil))))) (pss_cons (ps_expr (pe_bm PySem.F.plainAttrs_list PySem.F.slot_list_append PySem.F.type_list_append mt_uAppend (pv 2) (pa_cons (pe_op op_mod (pv 3) (pe_op op_pow pe_int pe_int)) pa_nil)))
  (pss_one (ps_set (i := 3) sc__law_row.nd rfl (.inl rfl) (pe_op op_fdiv (pv 3) (pe_op op_pow pe_int pe_int))))))))
  (pss_one (ps_ret (pv 2)))))))

abbrev s__law_names_ : Stmt := topS 36
abbrev N__law_names : List Str := ["row", "many", "signs", "size", "at", "k", "word", "wide", "step", "lot", "names", "sign", "name", "words", "special"]
theorem sc__law_names : FnScope N__law_names ["row", "many"] (defScope s__law_names_) := ⟨rfl, rfl, rfl, by decide +kernel, rfl, by decide +kernel, by decide +kernel⟩
def t__law_names_b1 (K : PySem.W.Frag) : TS :=
  tSeq (tAsg (tOp (uIx K) (tVar 2) (tOp (rI (fun _ j => 0 < j) fun i j => .int (i % j)) (tOp (uAdd K) (tOp (uIx K) (tVar 0) (tC (.int 11))) (tOp uMul (tVar 5) (tVar 8))) (tVar 7))) (gName 11)) (tSeq (tAsg (tOp (uAdd K) (tOp (uAdd K) (tSl (uSl K) (tVar 6) (tNoPart) (tPart (tVar 4))) (tVar 11)) (tSl (uSl K) (tVar 6) (tPart (tOp (uAdd K) (tVar 4) (tC (.int 1)))) (tNoPart))) (gName 12)) (tDrop (tBM K "list" uAppend (tVar 10) (tCons (tSl (uSl K) (tVar 12) (tNoPart) (tPart (tOp (rI0 fun i j => .int (i - j)) (tVar 3) (tOp uMul (tOp (rI (fun _ j => 0 < j) fun i j => .int (i % j)) (tVar 9) (tC (.int 2))) (tOp (rI (fun _ j => 0 < j) fun i j => .int (i % j)) (tOp uMul (tC (.int 3)) (tVar 5)) (tOp (rI0 fun i j => .int (i - j)) (tVar 3) (tVar 4))))))) (tNil)))))
def t__law_names_r1 (K : PySem.W.Frag) : TS :=
  tRet (tVar 10)
def t__law_names_r2 (K : PySem.W.Frag) : TS :=
  tSeq (tAsg (tM1 uSplit (tC (.str "free to at sent there cut done off call told passed on open shut grade bare held")) (tC (.str " "))) (gName 13)) (tSeq (tAsg (tOp (uIx K) (tOp (uAdd K) (tVar 13) (tLstU (tCons (tC (.str "moved")) (tCons (tC (.str "stands")) (tCons (tC (.str "drives")) (tNil)))))) (tOp (rI (fun _ j => 0 < j) fun i j => .int (i % j)) (tOp (rI CDiv fun i j => .int (i / j)) (tVar 9) (tC (.int 8))) (tC (.int 20)))) (gName 14)) (tSeq (tIfS (tAnd (tTest (tOp (uEq K false) (tOp (rI (fun _ j => 0 < j) fun i j => .int (i % j)) (tOp (rI CDiv fun i j => .int (i / j)) (tVar 9) (tC (.int 2))) (tC (.int 4))) (tC (.int 1)))) (tTest (tOp (uIn K true) (tVar 14) (tVar 10)))) (tAsg (tVar 14) (gSub (tVar 10) (tOp (rI (fun _ j => 0 < j) fun i j => .int (i % j)) (tOp (rI CDiv fun i j => .int (i / j)) (tVar 9) (tC (.int 160))) (tVar 1)) uSetL)) (tNext)) (t__law_names_r1 K)))
def t__law_names (K : PySem.W.Frag) : TS :=
  tSeq (tAsg (tC (.str "abcdefghijklmnopqrstuvwxyz0123456789")) (gName 2)) (tSeq (tAsg (tOp (uAdd K) (tC (.int 1)) (tOp (rI (fun _ j => 0 < j) fun i j => .int (i % j)) (tOp (uIx K) (tVar 0) (tC (.int 0))) (tC (.int 8)))) (gName 3)) (tSeq (tAsg (tOp (rI (fun _ j => 0 < j) fun i j => .int (i % j)) (tOp (uIx K) (tVar 0) (tC (.int 1))) (tVar 3)) (gName 4)) (tSeq (tAsg (tM1 (uJoin K) (tC (.str "")) (tLc (iRng1 (tCons (tVar 3) (tNil))) (gName 5) (tYes) (tOp (uIx K) (tVar 2) (tOp (rI (fun _ j => 0 < j) fun i j => .int (i % j)) (tOp (uIx K) (tVar 0) (tOp (uAdd K) (tC (.int 2)) (tVar 5))) (tOp (uIx K) (tLstU (tCons (tC (.int 36)) (tCons (tC (.int 26)) (tNil)))) (tCB (uInt) (tCons (tOp (uEq K false) (tVar 5) (tC (.int 0))) (tNil)))))) [5])) (gName 6)) (tSeq (tAsg (tOp (uIx K) (tLstU (tCons (tC (.int 36)) (tCons (tC (.int 26)) (tNil)))) (tCB (uInt) (tCons (tOp (uEq K false) (tVar 4) (tC (.int 0))) (tNil)))) (gName 7)) (tSeq (tAsg (tOp (uIx K) (tLstU (tCons (tC (.int 1)) (tCons (tC (.int 5)) (tCons (tC (.int 7)) (tCons (tC (.int 11)) (tNil)))))) (tOp (rI (fun _ j => 0 < j) fun i j => .int (i % j)) (tOp (uIx K) (tVar 0) (tC (.int 10))) (tC (.int 4)))) (gName 8)) (tSeq (tAsg (tOp (uIx K) (tVar 0) (tOp (rI0 fun i j => .int (i - j)) (tCB (uLen K) (tCons (tVar 0) (tNil))) (tC (.int 1)))) (gName 9)) (tSeq (tAsg (tLstU (tNil)) (gName 10)) (tSeq (tFor (iRng1 (tCons (tVar 1) (tNil))) (gName 5) (t__law_names_b1 K)) (t__law_names_r2 K)))))))))
theorem dv__law_names {P : Program} {w : World} {K : PySem.W.Frag} {mg : Str → Option Value} {b : Heap} {a : Addr} {d : FuncData} {sp : Sp} (F : Fn K mg "_law_names" s__law_names_ a d ["row", "many"])
    (n_range : mg "range" = none)
    (n_int : mg "int" = none)
    (n_len : mg "len" = none)
    (len : ∀ vs H Q E, sp vs H Q E → vs.length = 2)
    (rd : ∀ vs H Q E, sp vs H Q E → run (t__law_names K) (start N__law_names vs) H Q) : Keeps P w K mg b CX0 2 a d ["row", "many"] sp := by
  refine keeps0 F.fn sc__law_names len fun cdv A o s H vs Q E hr h => ⟨t__law_names K, ?_, rd vs H Q E h⟩
  unfold t__law_names t__law_names_r2 t__law_names_r1 t__law_names_b1
  exact (pss_cons (ps_set (i := 2) sc__law_names.nd rfl (.inr rfl) pe_str)
  (pss_cons (ps_set (i := 3) sc__law_names.nd rfl (.inl rfl) (pe_op op_uAdd pe_int (pe_op op_mod (pe_ix ix_u (pv 0) pe_int (fun _ _ => rfl)) pe_int)))
  (pss_cons (ps_set (i := 4) sc__law_names.nd rfl (.inl rfl) (pe_op op_mod (pe_ix ix_u (pv 0) pe_int (fun _ _ => rfl)) (pv 3)))
  (pss_cons (ps_set (i := 6) sc__law_names.nd rfl (.inl rfl) (pe_uJoin pe_str (pe_lc (own := [("k", 5)]) rfl sc__law_names.nd (pi_range1 (by rfl) n_range (pa_cons (pv 3) pa_nil)) (blkOk_by (own := [("k", 5)]) (N := N__law_names) (sc := defScope s__law_names_) (by decide +kernel)) (fun _ _ _ _ _ => (pg_name (i := 5) sc__law_names.nd rfl (.inl rfl))) (fun _ _ _ _ _ => pts_nil) (fun _ _ _ _ _ => (pe_ix ix_u (pv 2) (pe_op op_mod (pe_ix ix_u (pv 0) (pe_op op_uAdd pe_int (pv 5)) (fun _ _ => rfl)) (pe_ix ix_u (pe_lstU (pa_cons pe_int (pa_cons pe_int pa_nil))) (pe_callTy call_uInt (by rfl) n_int (by decide +kernel) (pa_cons (pe_cmpR (op_uEq hr.rm.units) (pv 5) pe_int (nomark _)) pa_nil)) (fun _ _ => rfl))) (fun _ _ => rfl))))))
  (pss_cons (ps_set (i := 7) sc__law_names.nd rfl (.inl rfl) (pe_ix ix_u (pe_lstU (pa_cons pe_int (pa_cons pe_int pa_nil))) (pe_callTy call_uInt (by rfl) n_int (by decide +kernel) (pa_cons (pe_cmpR (op_uEq hr.rm.units) (pv 4) pe_int (nomark _)) pa_nil)) (fun _ _ => rfl)))
  (pss_cons (ps_set (i := 8) sc__law_names.nd rfl (.inl rfl) (pe_ix ix_u (pe_lstU (pa_cons pe_int (pa_cons pe_int (pa_cons pe_int (pa_cons pe_int pa_nil))))) (pe_op op_mod (pe_ix ix_u (pv 0) pe_int (fun _ _ => rfl)) pe_int) (fun _ _ => rfl)))
  (pss_cons (ps_set (i := 9) sc__law_names.nd rfl (.inl rfl) (pe_ix ix_u (pv 0) (pe_op op_sub (pe_callB call_uLen (by rfl) n_len (by decide +kernel) (pa_cons (pv 0) pa_nil)) pe_int) (fun _ _ => rfl)))
  (pss_cons (ps_set (i := 10) sc__law_names.nd rfl (.inl rfl) (pe_lstU pa_nil))
  (pss_cons (ps_for PassesOwn.never rfl (pi_range1 (by rfl) n_range (pa_cons (pv 1) pa_nil)) (pg_name (i := 5) sc__law_names.nd rfl (.inl rfl)) (pss_cons (ps_set (i := 11) sc__law_names.nd rfl (.inl rfl) (pe_ix ix_u (pv 2) (pe_op op_mod (pe_op op_uAdd (pe_ix ix_u (pv 0) pe_int (fun _ _ => rfl)) (pe_op op_uMul (pv 5) (pv 8))) (pv 7)) (fun _ _ => rfl)))
  (pss_cons (ps_set (i := 12) sc__law_names.nd rfl (.inl rfl) (pe_op op_uAdd (pe_op op_uAdd (pe_slice sl_u (pv 6) po_none (po_some (pv 4))) (pv 11)) (pe_slice sl_u (pv 6) (po_some (pe_op op_uAdd (pv 4) pe_int)) po_none)))
  (pss_one (ps_expr (pe_bm PySem.F.plainAttrs_list PySem.F.slot_list_append PySem.F.type_list_append mt_uAppend (pv 10) (pa_cons (pe_slice sl_u (pv 12) po_none (po_some (pe_op op_sub (pv 3) (pe_op op_uMul (pe_op op_mod (pv 9) pe_int) (pe_op op_mod (pe_op op_uMul pe_int (pv 5)) (pe_op op_sub (pv 3) (pv 4))))))) pa_nil)))))))
  (pss_cons (ps_set (i := 13) sc__law_names.nd rfl (.inl rfl) (pe_uSplit pe_str pe_str))
  (pss_cons (ps_set (i := 14) sc__law_names.nd rfl (.inl rfl) (pe_ix ix_u (pe_op op_uAdd (pv 13) (pe_lstU (pa_cons pe_str (pa_cons pe_str (pa_cons pe_str pa_nil))))) (pe_op op_mod (pe_op op_fdiv (pv 9) pe_int) pe_int) (fun _ _ => rfl)))
  (pss_cons (ps_if (PW.pt (pw_and (pt_cmpR (op_uEq hr.rm.units) (pe_op op_mod (pe_op op_fdiv (pv 9) pe_int) pe_int) pe_int (nomark _)) (pw_and1 (pt_cmpR op_uNotIn (pv 14) (pv 10) rfl)))) (pss_one (ps_asg (pv 14) (pg_sub (pv 10) (pe_op op_mod (pe_op op_fdiv (pv 9) pe_int) (pv 1)) set_u))) pss_nil)
  (pss_one (ps_ret (pv 10)))))))))))))))

abbrev s__law_road_ : Stmt := topS 37
abbrev N__law_road : List Str := ["row", "names", "one", "other", "span", "there", "back"]
theorem sc__law_road : FnScope N__law_road ["row", "names"] (defScope s__law_road_) := ⟨rfl, rfl, rfl, by decide +kernel, rfl, by decide +kernel, by decide +kernel⟩
def t__law_road (K : PySem.W.Frag) : TS :=
  tSeq (tAsg (tOp (rI (fun _ j => 0 < j) fun i j => .int (i % j)) (tOp (uIx K) (tVar 0) (tC (.int 0))) (tCB (uLen K) (tCons (tVar 1) (tNil)))) (gName 2)) (tSeq (tAsg (tOp (rI (fun _ j => 0 < j) fun i j => .int (i % j)) (tOp (uAdd K) (tOp (uAdd K) (tVar 2) (tC (.int 1))) (tOp (rI (fun _ j => 0 < j) fun i j => .int (i % j)) (tOp (uIx K) (tVar 0) (tC (.int 1))) (tOp (rI0 fun i j => .int (i - j)) (tCB (uLen K) (tCons (tVar 1) (tNil))) (tC (.int 1))))) (tCB (uLen K) (tCons (tVar 1) (tNil)))) (gName 3)) (tSeq (tAsg (tOp (uIx K) (tLstU (tCons (tC (.int 2)) (tCons (tC (.int 5)) (tCons (tC (.int 60)) (tNil))))) (tOp (rI (fun _ j => 0 < j) fun i j => .int (i % j)) (tOp (uIx K) (tVar 0) (tC (.int 4))) (tC (.int 3)))) (gName 4)) (tSeq (tAsg (tOp (uIx K) (tLstU (tCons (tOp (uAdd K) (tC (.int 1)) (tOp (rI (fun _ j => 0 < j) fun i j => .int (i % j)) (tOp (uIx K) (tVar 0) (tC (.int 2))) (tVar 4))) (tCons (tC .non) (tNil)))) (tCB (uInt) (tCons (tOp (uEq K false) (tOp (rI (fun _ j => 0 < j) fun i j => .int (i % j)) (tOp (uIx K) (tVar 0) (tC (.int 5))) (tC (.int 5))) (tC (.int 1))) (tNil)))) (gName 5)) (tSeq (tAsg (tOp (uIx K) (tLstU (tCons (tOp (uAdd K) (tC (.int 1)) (tOp (rI (fun _ j => 0 < j) fun i j => .int (i % j)) (tOp (uIx K) (tVar 0) (tC (.int 3))) (tVar 4))) (tCons (tC .non) (tNil)))) (tCB (uInt) (tCons (tOp (uEq K false) (tOp (rI (fun _ j => 0 < j) fun i j => .int (i % j)) (tOp (uIx K) (tVar 0) (tC (.int 5))) (tC (.int 5))) (tC (.int 2))) (tNil)))) (gName 6)) (tRet (tTupU (tCons (tOp (uIx K) (tVar 1) (tVar 2)) (tCons (tOp (uIx K) (tVar 1) (tVar 3)) (tCons (tVar 5) (tCons (tVar 6) (tNil)))))))))))
theorem dv__law_road {P : Program} {w : World} {K : PySem.W.Frag} {mg : Str → Option Value} {b : Heap} {a : Addr} {d : FuncData} {sp : Sp} (F : Fn K mg "_law_road" s__law_road_ a d ["row", "names"])
    (n_len : mg "len" = none)
    (n_int : mg "int" = none)
    (len : ∀ vs H Q E, sp vs H Q E → vs.length = 2)
    (rd : ∀ vs H Q E, sp vs H Q E → run (t__law_road K) (start N__law_road vs) H Q) : Keeps P w K mg b CX0 2 a d ["row", "names"] sp := by
  refine keeps0 F.fn sc__law_road len fun cdv A o s H vs Q E hr h => ⟨t__law_road K, ?_, rd vs H Q E h⟩
  unfold t__law_road 
  exact (pss_cons (ps_set (i := 2) sc__law_road.nd rfl (.inl rfl) (pe_op op_mod (pe_ix ix_u (pv 0) pe_int (fun _ _ => rfl)) (pe_callB call_uLen (by rfl) n_len (by decide +kernel) (pa_cons (pv 1) pa_nil))))
  (pss_cons (ps_set (i := 3) sc__law_road.nd rfl (.inl rfl) (pe_op op_mod (pe_op op_uAdd (pe_op op_uAdd (pv 2) pe_int) (pe_op op_mod (pe_ix ix_u (pv 0) pe_int (fun _ _ => rfl)) (pe_op op_sub (pe_callB call_uLen (by rfl) n_len (by decide +kernel) (pa_cons (pv 1) pa_nil)) pe_int))) (pe_callB call_uLen (by rfl) n_len (by decide +kernel) (pa_cons (pv 1) pa_nil))))
  (pss_cons (ps_set (i := 4) sc__law_road.nd rfl (.inl rfl) (pe_ix ix_u (pe_lstU (pa_cons pe_int (pa_cons pe_int (pa_cons pe_int pa_nil)))) (pe_op op_mod (pe_ix ix_u (pv 0) pe_int (fun _ _ => rfl)) pe_int) (fun _ _ => rfl)))
  (pss_cons (ps_set (i := 5) sc__law_road.nd rfl (.inl rfl) (pe_ix ix_u (pe_lstU (pa_cons (pe_op op_uAdd pe_int (pe_op op_mod (pe_ix ix_u (pv 0) pe_int (fun _ _ => rfl)) (pv 4))) (pa_cons pe_non pa_nil))) (pe_callTy call_uInt (by rfl) n_int (by decide +kernel) (pa_cons (pe_cmpR (op_uEq hr.rm.units) (pe_op op_mod (pe_ix ix_u (pv 0) pe_int (fun _ _ => rfl)) pe_int) pe_int (nomark _)) pa_nil)) (fun _ _ => rfl)))
  (pss_cons (ps_set (i := 6) sc__law_road.nd rfl (.inl rfl) (pe_ix ix_u (pe_lstU (pa_cons (pe_op op_uAdd pe_int (pe_op op_mod (pe_ix ix_u (pv 0) pe_int (fun _ _ => rfl)) (pv 4))) (pa_cons pe_non pa_nil))) (pe_callTy call_uInt (by rfl) n_int (by decide +kernel) (pa_cons (pe_cmpR (op_uEq hr.rm.units) (pe_op op_mod (pe_ix ix_u (pv 0) pe_int (fun _ _ => rfl)) pe_int) pe_int (nomark _)) pa_nil)) (fun _ _ => rfl)))
  (pss_one (ps_ret (pe_tupU (pa_cons (pe_ix ix_u (pv 1) (pv 2) (fun _ _ => rfl)) (pa_cons (pe_ix ix_u (pv 1) (pv 3) (fun _ _ => rfl)) (pa_cons (pv 5) (pa_cons (pv 6) pa_nil))))))))))))

abbrev s__law_town_ : Stmt := topS 38
abbrev N__law_town : List Str := ["script", "start", "row", "names", "roads", "cell", "at", "stands", "reach"]
theorem sc__law_town : FnScope N__law_town ["script", "start"] (defScope s__law_town_) := ⟨rfl, rfl, rfl, by decide +kernel, rfl, by decide +kernel, by decide +kernel⟩
def t__law_town_b1 (K : PySem.W.Frag) (s__law_row : Sp) (s__law_cell_at : Sp) (s__law_names : Sp) (s__law_road : Sp) : TS :=
  tIfS (tTest (tOp (rI0 fun i j => .bl (decide (j < i))) (tCB (uLen K) (tCons (tVar 3) (tNil))) (tC (.int 1)))) (tDrop (tBM K "list" uAppend (tVar 4) (tCons (tGo s__law_road E0 (tCons (tGo s__law_row E0 (tCons (tVar 5) (tCons (tC (.int 6)) (tNil)))) (tCons (tVar 3) (tNil)))) (tNil)))) (tNext)
def t__law_town_r1 (K : PySem.W.Frag) (s__law_row : Sp) (s__law_cell_at : Sp) (s__law_names : Sp) (s__law_road : Sp) : TS :=
  tSeq (tAsg (tOp (rI (fun _ j => 0 < j) fun i j => .int (i % j)) (tOp (uIx K) (tVar 2) (tC (.int 14))) (tCB (uLen K) (tCons (tVar 3) (tNil)))) (gName 6)) (tSeq (tAsg (tSl (uSl K) (tOp (uAdd K) (tVar 3) (tVar 3)) (tPart (tVar 6)) (tPart (tOp (uAdd K) (tOp (uAdd K) (tVar 6) (tC (.int 1))) (tOp (rI (fun _ j => 0 < j) fun i j => .int (i % j)) (tOp (uIx K) (tVar 2) (tC (.int 13))) (tCB uMin2 (tCons (tC (.int 5)) (tCons (tCB (uLen K) (tCons (tVar 3) (tNil))) (tNil)))))))) (gName 7)) (tSeq (tAsg (tOp (uIx K) (tLstU (tCons (tOp (rI (fun _ j => 0 < j) fun i j => .int (i % j)) (tOp (uIx K) (tVar 2) (tC (.int 16))) (tC (.int 121))) (tCons (tOp (rI (fun _ j => 0 < j) fun i j => .int (i % j)) (tOp (uIx K) (tVar 2) (tC (.int 16))) (tC (.int 13))) (tCons (tC (.int 120)) (tCons (tC (.int 0)) (tNil)))))) (tOp (rI (fun _ j => 0 < j) fun i j => .int (i % j)) (tOp (uIx K) (tVar 2) (tC (.int 17))) (tC (.int 4)))) (gName 8)) (tRet (tTupU (tCons (tCB (uTuple K) (tCons (tVar 3) (tNil))) (tCons (tCB (uTuple K) (tCons (tVar 4) (tNil))) (tCons (tCB (uTuple K) (tCons (tVar 7) (tNil))) (tCons (tVar 8) (tNil)))))))))
def t__law_town (K : PySem.W.Frag) (s__law_row : Sp) (s__law_cell_at : Sp) (s__law_names : Sp) (s__law_road : Sp) : TS :=
  tSeq (tAsg (tGo s__law_row E0 (tCons (tGo s__law_cell_at E0 (tCons (tVar 0) (tCons (tVar 1) (tNil)))) (tCons (tC (.int 20)) (tNil)))) (gName 2)) (tSeq (tAsg (tGo s__law_names E0 (tCons (tVar 2) (tCons (tOp (uAdd K) (tC (.int 1)) (tOp (rI (fun _ j => 0 < j) fun i j => .int (i % j)) (tOp (uIx K) (tVar 2) (tC (.int 12))) (tC (.int 10)))) (tNil)))) (gName 3)) (tSeq (tAsg (tLstU (tNil)) (gName 4)) (tSeq (tFor (iU K (tSl (uSl K) (tVar 0) (tPart (tOp (uAdd K) (tVar 1) (tC (.int 1)))) (tPart (tOp (uAdd K) (tVar 1) (tC (.int 19)))))) (gName 5) (t__law_town_b1 K s__law_row s__law_cell_at s__law_names s__law_road)) (t__law_town_r1 K s__law_row s__law_cell_at s__law_names s__law_road))))
theorem dv__law_town {P : Program} {w : World} {K : PySem.W.Frag} {mg : Str → Option Value} {b : Heap} {a : Addr} {d : FuncData} {sp : Sp} (F : Fn K mg "_law_town" s__law_town_ a d ["script", "start"])
    {a__law_row : Addr} {d__law_row : FuncData} {s__law_row : Sp} (F__law_row : Fn K mg "_law_row" s__law_row_ a__law_row d__law_row ["cell", "many"]) (k__law_row : Keeps P w K mg b CX0 2 a__law_row d__law_row ["cell", "many"] s__law_row)
    {a__law_cell_at : Addr} {d__law_cell_at : FuncData} {s__law_cell_at : Sp} (F__law_cell_at : Fn K mg "_law_cell_at" s__law_cell_at_ a__law_cell_at d__law_cell_at ["script", "k"]) (k__law_cell_at : Keeps P w K mg b CX0 2 a__law_cell_at d__law_cell_at ["script", "k"] s__law_cell_at)
    {a__law_names : Addr} {d__law_names : FuncData} {s__law_names : Sp} (F__law_names : Fn K mg "_law_names" s__law_names_ a__law_names d__law_names ["row", "many"]) (k__law_names : Keeps P w K mg b CX0 2 a__law_names d__law_names ["row", "many"] s__law_names)
    (n_len : mg "len" = none)
    {a__law_road : Addr} {d__law_road : FuncData} {s__law_road : Sp} (F__law_road : Fn K mg "_law_road" s__law_road_ a__law_road d__law_road ["row", "names"]) (k__law_road : Keeps P w K mg b CX0 2 a__law_road d__law_road ["row", "names"] s__law_road)
    (n_min : mg "min" = none)
    (n_tuple : mg "tuple" = none)
    (len : ∀ vs H Q E, sp vs H Q E → vs.length = 2)
    (rd : ∀ vs H Q E, sp vs H Q E → run (t__law_town K s__law_row s__law_cell_at s__law_names s__law_road) (start N__law_town vs) H Q) : Keeps P w K mg b CX0 3 a d ["script", "start"] sp := by
  refine keeps0 F.fn sc__law_town len fun cdv A o s H vs Q E hr h => ⟨t__law_town K s__law_row s__law_cell_at s__law_names s__law_road, ?_, rd vs H Q E h⟩
  unfold t__law_town t__law_town_r1 t__law_town_b1
  exact (pss_cons (ps_set (i := 2) sc__law_town.nd rfl (.inl rfl) (pe_go k__law_row (hr.mono (by decide)) rfl F__law_row.g F__law_row.fn.kp F__law_row.b pass0 (pa_cons (pe_go k__law_cell_at (hr.mono (by decide)) rfl F__law_cell_at.g F__law_cell_at.fn.kp F__law_cell_at.b pass0 (pa_cons (pv 0) (pa_cons (pv 1) pa_nil))) (pa_cons pe_int pa_nil))))
  (pss_cons (ps_set (i := 3) sc__law_town.nd rfl (.inl rfl) (pe_go k__law_names (hr.mono (by decide)) rfl F__law_names.g F__law_names.fn.kp F__law_names.b pass0 (pa_cons (pv 2) (pa_cons (pe_op op_uAdd pe_int (pe_op op_mod (pe_ix ix_u (pv 2) pe_int (fun _ _ => rfl)) pe_int)) pa_nil))))
  (pss_cons (ps_set (i := 4) sc__law_town.nd rfl (.inl rfl) (pe_lstU pa_nil))
  (pss_cons (ps_for PassesOwn.never rfl (pi_u (pe_slice sl_u (pv 0) (po_some (pe_op op_uAdd (pv 1) pe_int)) (po_some (pe_op op_uAdd (pv 1) pe_int)))) (pg_name (i := 5) sc__law_town.nd rfl (.inl rfl)) (pss_one (ps_if (pt_cmpR op_gt (pe_callB call_uLen (by rfl) n_len (by decide +kernel) (pa_cons (pv 3) pa_nil)) pe_int (nomark _)) (pss_one (ps_expr (pe_bm PySem.F.plainAttrs_list PySem.F.slot_list_append PySem.F.type_list_append mt_uAppend (pv 4) (pa_cons (pe_go k__law_road (hr.mono (by decide)) rfl F__law_road.g F__law_road.fn.kp F__law_road.b pass0 (pa_cons (pe_go k__law_row (hr.mono (by decide)) rfl F__law_row.g F__law_row.fn.kp F__law_row.b pass0 (pa_cons (pv 5) (pa_cons pe_int pa_nil))) (pa_cons (pv 3) pa_nil))) pa_nil)))) pss_nil)))
  (pss_cons (ps_set (i := 6) sc__law_town.nd rfl (.inl rfl) (pe_op op_mod (pe_ix ix_u (pv 2) pe_int (fun _ _ => rfl)) (pe_callB call_uLen (by rfl) n_len (by decide +kernel) (pa_cons (pv 3) pa_nil))))
  (pss_cons (ps_set (i := 7) sc__law_town.nd rfl (.inl rfl) (pe_slice sl_u (pe_op op_uAdd (pv 3) (pv 3)) (po_some (pv 6)) (po_some (pe_op op_uAdd (pe_op op_uAdd (pv 6) pe_int) (pe_op op_mod (pe_ix ix_u (pv 2) pe_int (fun _ _ => rfl)) (pe_callB (call_uMin2 rfl) (by rfl) n_min (by decide +kernel) (pa_cons pe_int (pa_cons (pe_callB call_uLen (by rfl) n_len (by decide +kernel) (pa_cons (pv 3) pa_nil)) pa_nil))))))))
  (pss_cons (ps_set (i := 8) sc__law_town.nd rfl (.inl rfl) (pe_ix ix_u (pe_lstU (pa_cons (pe_op op_mod (pe_ix ix_u (pv 2) pe_int (fun _ _ => rfl)) pe_int) (pa_cons (pe_op op_mod (pe_ix ix_u (pv 2) pe_int (fun _ _ => rfl)) pe_int) (pa_cons pe_int (pa_cons pe_int pa_nil))))) (pe_op op_mod (pe_ix ix_u (pv 2) pe_int (fun _ _ => rfl)) pe_int) (fun _ _ => rfl)))
  (pss_one (ps_ret (pe_tupU (pa_cons (pe_callTy call_uTuple (by rfl) n_tuple (by decide +kernel) (pa_cons (pv 3) pa_nil)) (pa_cons (pe_callTy call_uTuple (by rfl) n_tuple (by decide +kernel) (pa_cons (pv 4) pa_nil)) (pa_cons (pe_callTy call_uTuple (by rfl) n_tuple (by decide +kernel) (pa_cons (pv 7) pa_nil)) (pa_cons (pv 8) pa_nil))))))))))))))

abbrev s__law_shut_ : Stmt := topS 39
abbrev N__law_shut : List Str := ["cell", "town", "row", "share", "k"]
theorem sc__law_shut : FnScope N__law_shut ["cell", "town"] (defScope s__law_shut_) := ⟨rfl, rfl, rfl, by decide +kernel, rfl, by decide +kernel, by decide +kernel⟩
def t__law_shut (K : PySem.W.Frag) (s__law_row : Sp) : TS :=
  tSeq (tAsg (tGo s__law_row E0 (tCons (tVar 0) (tCons (tC (.int 20)) (tNil)))) (gName 2)) (tSeq (tAsg (tOp (uIx K) (tLstU (tCons (tOp (uAdd K) (tOp (rI CPow fun i j => .int (i ^ j.toNat)) (tC (.int 10)) (tC (.int 6))) (tC (.int 1))) (tCons (tC (.int 5)) (tCons (tC (.int 2)) (tNil))))) (tOp (rI (fun _ j => 0 < j) fun i j => .int (i % j)) (tOp (uIx K) (tVar 2) (tC (.int 18))) (tC (.int 3)))) (gName 3)) (tRet (tCB (uTuple K) (tCons (tLc (iRng1 (tCons (tCB (uLen K) (tCons (tOp (uIx K) (tVar 1) (tC (.int 1))) (tNil))) (tNil))) (gName 4) (tTest (tOp (uEq K false) (tOp (rI (fun _ j => 0 < j) fun i j => .int (i % j)) (tOp (uIx K) (tVar 2) (tVar 4)) (tVar 3)) (tC (.int 1)))) (tVar 4) [4]) (tNil)))))
theorem dv__law_shut {P : Program} {w : World} {K : PySem.W.Frag} {mg : Str → Option Value} {b : Heap} {a : Addr} {d : FuncData} {sp : Sp} (F : Fn K mg "_law_shut" s__law_shut_ a d ["cell", "town"])
    {a__law_row : Addr} {d__law_row : FuncData} {s__law_row : Sp} (F__law_row : Fn K mg "_law_row" s__law_row_ a__law_row d__law_row ["cell", "many"]) (k__law_row : Keeps P w K mg b CX0 2 a__law_row d__law_row ["cell", "many"] s__law_row)
    (n_tuple : mg "tuple" = none)
    (n_range : mg "range" = none)
    (n_len : mg "len" = none)
    (len : ∀ vs H Q E, sp vs H Q E → vs.length = 2)
    (rd : ∀ vs H Q E, sp vs H Q E → run (t__law_shut K s__law_row) (start N__law_shut vs) H Q) : Keeps P w K mg b CX0 3 a d ["cell", "town"] sp := by
  refine keeps0 F.fn sc__law_shut len fun cdv A o s H vs Q E hr h => ⟨t__law_shut K s__law_row, ?_, rd vs H Q E h⟩
  unfold t__law_shut 
  exact (pss_cons (ps_set (i := 2) sc__law_shut.nd rfl (.inr rfl) (pe_go k__law_row (hr.mono (by decide)) rfl F__law_row.g F__law_row.fn.kp F__law_row.b pass0 (pa_cons (pv 0) (pa_cons pe_int pa_nil))))
  (pss_cons (ps_set (i := 3) sc__law_shut.nd rfl (.inr rfl) (pe_ix ix_u (pe_lstU (pa_cons (pe_op op_uAdd (pe_op op_pow pe_int pe_int) pe_int) (pa_cons pe_int (pa_cons pe_int pa_nil)))) (pe_op op_mod (pe_ix ix_u (pv 2) pe_int (fun _ _ => rfl)) pe_int) (fun _ _ => rfl)))
  (pss_one (ps_ret (pe_callTy call_uTuple (by rfl) n_tuple (by decide +kernel) (pa_cons (pe_lc (own := [("k", 4)]) rfl sc__law_shut.nd (pi_range1 (by rfl) n_range (pa_cons (pe_callB call_uLen (by rfl) n_len (by decide +kernel) (pa_cons (pe_ix ix_u (pv 1) pe_int (fun _ _ => rfl)) pa_nil)) pa_nil)) (blkOk_by (own := [("k", 4)]) (N := N__law_shut) (sc := defScope s__law_shut_) (by decide +kernel)) (fun _ _ _ _ _ => (pg_name (i := 4) sc__law_shut.nd rfl (.inl rfl))) (fun _ _ _ _ _ => (pts_one (pt_cmpR (op_uEq hr.rm.units) (pe_op op_mod (pe_ix ix_u (pv 2) (pv 4) (fun _ _ => rfl)) (pv 3)) pe_int (nomark _)))) (fun _ _ _ _ _ => (pv 4))) pa_nil))))))

abbrev s__law_steps_ : Stmt := topS 40
abbrev N__law_steps : List Str := ["town", "shut", "found", "k", "one", "other", "there", "back", "a", "b"]
theorem sc__law_steps : FnScope N__law_steps ["town", "shut"] (defScope s__law_steps_) := ⟨rfl, rfl, rfl, by decide +kernel, rfl, by decide +kernel, by decide +kernel⟩
def t__law_steps_r1 (K : PySem.W.Frag) : TS :=
  tIfS (tAnd (tTest (tOp (uIn K true) (tVar 3) (tVar 1))) (tTest (tOp rNotN (tVar 7) (tC .non)))) (tDrop (tBM K "list" uAppend (tVar 2) (tCons (tTupU (tCons (tVar 3) (tCons (tVar 9) (tCons (tVar 8) (tCons (tVar 7) (tNil)))))) (tNil)))) (tNext)
def t__law_steps_b1 (K : PySem.W.Frag) : TS :=
  tSeq (tAsg (tOp (uIx K) (tOp (uIx K) (tVar 0) (tC (.int 1))) (tVar 3)) (gTup K 4 (gCons (gName 4) (gCons (gName 5) (gCons (gName 6) (gCons (gName 7) (gNil))))))) (tSeq (tAsg (tIdx K (tOp (uIx K) (tVar 0) (tC (.int 0))) (tCons (tVar 4) (tNil))) (gName 8)) (tSeq (tAsg (tIdx K (tOp (uIx K) (tVar 0) (tC (.int 0))) (tCons (tVar 5) (tNil))) (gName 9)) (tSeq (tIfS (tAnd (tTest (tOp (uIn K true) (tVar 3) (tVar 1))) (tTest (tOp rNotN (tVar 6) (tC .non)))) (tDrop (tBM K "list" uAppend (tVar 2) (tCons (tTupU (tCons (tVar 3) (tCons (tVar 8) (tCons (tVar 9) (tCons (tVar 6) (tNil)))))) (tNil)))) (tNext)) (t__law_steps_r1 K))))
def t__law_steps_r2 (K : PySem.W.Frag) : TS :=
  tRet (tVar 2)
def t__law_steps (K : PySem.W.Frag) : TS :=
  tSeq (tAsg (tLstU (tNil)) (gName 2)) (tSeq (tFor (iRng1 (tCons (tCB (uLen K) (tCons (tOp (uIx K) (tVar 0) (tC (.int 1))) (tNil))) (tNil))) (gName 3) (t__law_steps_b1 K)) (t__law_steps_r2 K))
theorem dv__law_steps {P : Program} {w : World} {K : PySem.W.Frag} {mg : Str → Option Value} {b : Heap} {a : Addr} {d : FuncData} {sp : Sp} (F : Fn K mg "_law_steps" s__law_steps_ a d ["town", "shut"])
    (n_range : mg "range" = none)
    (n_len : mg "len" = none)
    (len : ∀ vs H Q E, sp vs H Q E → vs.length = 2)
    (rd : ∀ vs H Q E, sp vs H Q E → run (t__law_steps K) (start N__law_steps vs) H Q) : Keeps P w K mg b CX0 2 a d ["town", "shut"] sp := by
  refine keeps0 F.fn sc__law_steps len fun cdv A o s H vs Q E hr h => ⟨t__law_steps K, ?_, rd vs H Q E h⟩
  unfold t__law_steps t__law_steps_r2 t__law_steps_b1 t__law_steps_r1
  exact (pss_cons (ps_set (i := 2) sc__law_steps.nd rfl (.inl rfl) (pe_lstU pa_nil))
  (pss_cons (ps_for PassesOwn.never rfl (pi_range1 (by rfl) n_range (pa_cons (pe_callB call_uLen (by rfl) n_len (by decide +kernel) (pa_cons (pe_ix ix_u (pv 0) pe_int (fun _ _ => rfl)) pa_nil)) pa_nil)) (pg_name (i := 3) sc__law_steps.nd rfl (.inl rfl)) (pss_cons (ps_asg (pe_ix ix_u (pe_ix ix_u (pv 0) pe_int (fun _ _ => rfl)) (pv 3) (fun _ _ => rfl)) (pg_tup rfl (pgs_cons (pg_name (i := 4) sc__law_steps.nd rfl (.inl rfl)) (pgs_cons (pg_name (i := 5) sc__law_steps.nd rfl (.inl rfl)) (pgs_cons (pg_name (i := 6) sc__law_steps.nd rfl (.inl rfl)) (pgs_cons (pg_name (i := 7) sc__law_steps.nd rfl (.inl rfl)) pgs_nil))))))
  (pss_cons (ps_set (i := 8) sc__law_steps.nd rfl (.inl rfl) (pe_idx (pe_ix ix_u (pv 0) pe_int (fun _ _ => rfl)) (pa_cons (pv 4) pa_nil)))
  (pss_cons (ps_set (i := 9) sc__law_steps.nd rfl (.inl rfl) (pe_idx (pe_ix ix_u (pv 0) pe_int (fun _ _ => rfl)) (pa_cons (pv 5) pa_nil)))
  (pss_cons (ps_if (PW.pt (pw_and (pt_cmpR op_uNotIn (pv 3) (pv 1) rfl) (pw_and1 (pt_cmpR op_notN (pv 6) pe_non (nomark _))))) (pss_one (ps_expr (pe_bm PySem.F.plainAttrs_list PySem.F.slot_list_append PySem.F.type_list_append mt_uAppend (pv 2) (pa_cons (pe_tupU (pa_cons (pv 3) (pa_cons (pv 8) (pa_cons (pv 9) (pa_cons (pv 6) pa_nil))))) pa_nil)))) pss_nil)
  (pss_one (ps_if (PW.pt (pw_and (pt_cmpR op_uNotIn (pv 3) (pv 1) rfl) (pw_and1 (pt_cmpR op_notN (pv 7) pe_non (nomark _))))) (pss_one (ps_expr (pe_bm PySem.F.plainAttrs_list PySem.F.slot_list_append PySem.F.type_list_append mt_uAppend (pv 2) (pa_cons (pe_tupU (pa_cons (pv 3) (pa_cons (pv 9) (pa_cons (pv 8) (pa_cons (pv 7) pa_nil))))) pa_nil)))) pss_nil)))))))
  (pss_one (ps_ret (pv 2)))))

abbrev s__law_chart_ : Stmt := topS 41
abbrev N__law_chart : List Str := ["town", "shut", "many", "rows", "goal", "here", "number", "there", "minutes", "mid", "total", "row"]
theorem sc__law_chart : FnScope N__law_chart ["town", "shut"] (defScope s__law_chart_) := ⟨rfl, rfl, rfl, by decide +kernel, rfl, by decide +kernel, by decide +kernel⟩
def t__law_chart_b1 (K : PySem.W.Frag) (s__law_steps : Sp) : TS :=
  tDrop (tBM K "list" uAppend (tVar 3) (tCons (tLc (iRng1 (tCons (tVar 2) (tNil))) (gName 5) (tYes) (tOp (uIx K) (tLstU (tCons (tC .non) (tCons (tC (.int 0)) (tNil)))) (tCB (uInt) (tCons (tOp (uEq K false) (tVar 5) (tVar 4)) (tNil)))) [5]) (tNil)))
def t__law_chart_b2 (K : PySem.W.Frag) (s__law_steps : Sp) : TS :=
  tIfS (tOr (tTest (tOp rIsN (tOp (uIx K) (tOp (uIx K) (tVar 3) (tVar 7)) (tVar 5)) (tC .non))) (tTest (tOp (rI0 fun i j => .bl (decide (j < i))) (tOp (uIx K) (tOp (uIx K) (tVar 3) (tVar 7)) (tVar 5)) (tVar 8)))) (tAsg (tVar 8) (gSub (tOp (uIx K) (tVar 3) (tVar 7)) (tVar 5) uSetL)) (tNext)
def t__law_chart_b3 (K : PySem.W.Frag) (s__law_steps : Sp) : TS :=
  tIfS (tAnd (tTest (tOp rNotN (tOp (uIx K) (tOp (uIx K) (tVar 3) (tVar 9)) (tVar 5)) (tC .non))) (tTest (tOp rNotN (tOp (uIx K) (tOp (uIx K) (tVar 3) (tVar 4)) (tVar 9)) (tC .non)))) (tSeq (tAsg (tOp (uAdd K) (tOp (uIx K) (tOp (uIx K) (tVar 3) (tVar 9)) (tVar 5)) (tOp (uIx K) (tOp (uIx K) (tVar 3) (tVar 4)) (tVar 9))) (gName 10)) (tIfS (tOr (tTest (tOp rIsN (tOp (uIx K) (tOp (uIx K) (tVar 3) (tVar 4)) (tVar 5)) (tC .non))) (tTest (tOp (rI0 fun i j => .bl (decide (j < i))) (tOp (uIx K) (tOp (uIx K) (tVar 3) (tVar 4)) (tVar 5)) (tVar 10)))) (tAsg (tVar 10) (gSub (tOp (uIx K) (tVar 3) (tVar 4)) (tVar 5) uSetL)) (tNext))) (tNext)
def t__law_chart_b4 (K : PySem.W.Frag) (s__law_steps : Sp) : TS :=
  tFor (iRng1 (tCons (tVar 2) (tNil))) (gName 5) (t__law_chart_b3 K s__law_steps)
def t__law_chart_b5 (K : PySem.W.Frag) (s__law_steps : Sp) : TS :=
  tFor (iRng1 (tCons (tVar 2) (tNil))) (gName 4) (t__law_chart_b4 K s__law_steps)
def t__law_chart_r1 (K : PySem.W.Frag) (s__law_steps : Sp) : TS :=
  tRet (tCB (uTuple K) (tCons (tLc (iU K (tVar 3)) (gName 11) (tYes) (tCB (uTuple K) (tCons (tVar 11) (tNil))) [11]) (tNil)))
def t__law_chart_r2 (K : PySem.W.Frag) (s__law_steps : Sp) : TS :=
  tSeq (tFor (iRng1 (tCons (tVar 2) (tNil))) (gName 9) (t__law_chart_b5 K s__law_steps)) (t__law_chart_r1 K s__law_steps)
def t__law_chart_r3 (K : PySem.W.Frag) (s__law_steps : Sp) : TS :=
  tSeq (tFor (iU K (tGo s__law_steps E0 (tCons (tVar 0) (tCons (tVar 1) (tNil))))) (gTup K 4 (gCons (gName 6) (gCons (gName 5) (gCons (gName 7) (gCons (gName 8) (gNil)))))) (t__law_chart_b2 K s__law_steps)) (t__law_chart_r2 K s__law_steps)
def t__law_chart (K : PySem.W.Frag) (s__law_steps : Sp) : TS :=
  tSeq (tAsg (tCB (uLen K) (tCons (tOp (uIx K) (tVar 0) (tC (.int 0))) (tNil))) (gName 2)) (tSeq (tAsg (tLstU (tNil)) (gName 3)) (tSeq (tFor (iRng1 (tCons (tVar 2) (tNil))) (gName 4) (t__law_chart_b1 K s__law_steps)) (t__law_chart_r3 K s__law_steps)))
theorem dv__law_chart {P : Program} {w : World} {K : PySem.W.Frag} {mg : Str → Option Value} {b : Heap} {a : Addr} {d : FuncData} {sp : Sp} (F : Fn K mg "_law_chart" s__law_chart_ a d ["town", "shut"])
    (n_len : mg "len" = none)
    (n_range : mg "range" = none)
    (n_int : mg "int" = none)
    {a__law_steps : Addr} {d__law_steps : FuncData} {s__law_steps : Sp} (F__law_steps : Fn K mg "_law_steps" s__law_steps_ a__law_steps d__law_steps ["town", "shut"]) (k__law_steps : Keeps P w K mg b CX0 2 a__law_steps d__law_steps ["town", "shut"] s__law_steps)
    (n_tuple : mg "tuple" = none)
    (len : ∀ vs H Q E, sp vs H Q E → vs.length = 2)
    (rd : ∀ vs H Q E, sp vs H Q E → run (t__law_chart K s__law_steps) (start N__law_chart vs) H Q) : Keeps P w K mg b CX0 3 a d ["town", "shut"] sp := by
  refine keeps0 F.fn sc__law_chart len fun cdv A o s H vs Q E hr h => ⟨t__law_chart K s__law_steps, ?_, rd vs H Q E h⟩
  unfold t__law_chart t__law_chart_r3 t__law_chart_r2 t__law_chart_r1 t__law_chart_b5 t__law_chart_b4 t__law_chart_b3 t__law_chart_b2 t__law_chart_b1
  exact (pss_cons (ps_set (i := 2) sc__law_chart.nd rfl (.inl rfl) (pe_callB call_uLen (by rfl) n_len (by decide +kernel) (pa_cons (pe_ix ix_u (pv 0) pe_int (fun _ _ => rfl)) pa_nil)))
  (pss_cons (ps_set (i := 3) sc__law_chart.nd rfl (.inl rfl) (pe_lstU pa_nil))
  (pss_cons (ps_for PassesOwn.never rfl (pi_range1 (by rfl) n_range (pa_cons (pv 2) pa_nil)) (pg_name (i := 4) sc__law_chart.nd rfl (.inr rfl)) (pss_one (ps_expr (pe_bm PySem.F.plainAttrs_list PySem.F.slot_list_append PySem.F.type_list_append mt_uAppend (pv 3) (pa_cons (pe_lc (own := [("here", 5)]) rfl sc__law_chart.nd (pi_range1 (by rfl) n_range (pa_cons (pv 2) pa_nil)) (blkOk_by (own := [("here", 5)]) (N := N__law_chart) (sc := defScope s__law_chart_) (by decide +kernel)) (fun _ _ _ _ _ => (pg_name (i := 5) sc__law_chart.nd rfl (.inl rfl))) (fun _ _ _ _ _ => pts_nil) (fun _ _ _ _ _ => (pe_ix ix_u (pe_lstU (pa_cons pe_non (pa_cons pe_int pa_nil))) (pe_callTy call_uInt (by rfl) n_int (by decide +kernel) (pa_cons (pe_cmpR (op_uEq hr.rm.units) (pv 5) (pv 4) (nomark _)) pa_nil)) (fun _ _ => rfl)))) pa_nil)))))
  (pss_cons (ps_for PassesOwn.never rfl (pi_u (pe_go k__law_steps (hr.mono (by decide)) rfl F__law_steps.g F__law_steps.fn.kp F__law_steps.b pass0 (pa_cons (pv 0) (pa_cons (pv 1) pa_nil)))) (pg_tup rfl (pgs_cons (pg_name (i := 6) sc__law_chart.nd rfl (.inl rfl)) (pgs_cons (pg_name (i := 5) sc__law_chart.nd rfl (.inl rfl)) (pgs_cons (pg_name (i := 7) sc__law_chart.nd rfl (.inl rfl)) (pgs_cons (pg_name (i := 8) sc__law_chart.nd rfl (.inl rfl)) pgs_nil))))) (pss_one (ps_if (PW.pt (pw_or (pt_cmpR op_isN (pe_ix ix_u (pe_ix ix_u (pv 3) (pv 7) (fun _ _ => rfl)) (pv 5) (fun _ _ => rfl)) pe_non (nomark _)) (pw_or1 (pt_cmpR op_gt (pe_ix ix_u (pe_ix ix_u (pv 3) (pv 7) (fun _ _ => rfl)) (pv 5) (fun _ _ => rfl)) (pv 8) (nomark _))))) (pss_one (ps_asg (pv 8) (pg_sub (pe_ix ix_u (pv 3) (pv 7) (fun _ _ => rfl)) (pv 5) set_u))) pss_nil)))
  (pss_cons (ps_for PassesOwn.never rfl (pi_range1 (by rfl) n_range (pa_cons (pv 2) pa_nil)) (pg_name (i := 9) sc__law_chart.nd rfl (.inl rfl)) (pss_one (ps_for PassesOwn.never rfl (pi_range1 (by rfl) n_range (pa_cons (pv 2) pa_nil)) (pg_name (i := 4) sc__law_chart.nd rfl (.inr rfl)) (pss_one (ps_for PassesOwn.never rfl (pi_range1 (by rfl) n_range (pa_cons (pv 2) pa_nil)) (pg_name (i := 5) sc__law_chart.nd rfl (.inl rfl)) (pss_one (ps_if (PW.pt (pw_and (pt_cmpR op_notN (pe_ix ix_u (pe_ix ix_u (pv 3) (pv 9) (fun _ _ => rfl)) (pv 5) (fun _ _ => rfl)) pe_non (nomark _)) (pw_and1 (pt_cmpR op_notN (pe_ix ix_u (pe_ix ix_u (pv 3) (pv 4) (fun _ _ => rfl)) (pv 9) (fun _ _ => rfl)) pe_non (nomark _))))) (pss_cons (ps_set (i := 10) sc__law_chart.nd rfl (.inl rfl) (pe_op op_uAdd (pe_ix ix_u (pe_ix ix_u (pv 3) (pv 9) (fun _ _ => rfl)) (pv 5) (fun _ _ => rfl)) (pe_ix ix_u (pe_ix ix_u (pv 3) (pv 4) (fun _ _ => rfl)) (pv 9) (fun _ _ => rfl))))
  (pss_one (ps_if (PW.pt (pw_or (pt_cmpR op_isN (pe_ix ix_u (pe_ix ix_u (pv 3) (pv 4) (fun _ _ => rfl)) (pv 5) (fun _ _ => rfl)) pe_non (nomark _)) (pw_or1 (pt_cmpR op_gt (pe_ix ix_u (pe_ix ix_u (pv 3) (pv 4) (fun _ _ => rfl)) (pv 5) (fun _ _ => rfl)) (pv 10) (nomark _))))) (pss_one (ps_asg (pv 10) (pg_sub (pe_ix ix_u (pv 3) (pv 4) (fun _ _ => rfl)) (pv 5) set_u))) pss_nil))) pss_nil)))))))
  (pss_one (ps_ret (pe_callTy call_uTuple (by rfl) n_tuple (by decide +kernel) (pa_cons (pe_lc (own := [("row", 11)]) rfl sc__law_chart.nd (pi_u (pv 3)) (blkOk_by (own := [("row", 11)]) (N := N__law_chart) (sc := defScope s__law_chart_) (by decide +kernel)) (fun _ _ _ _ _ => (pg_name (i := 11) sc__law_chart.nd rfl (.inl rfl))) (fun _ _ _ _ _ => pts_nil) (fun _ _ _ _ _ => (pe_callTy call_uTuple (by rfl) n_tuple (by decide +kernel) (pa_cons (pv 11) pa_nil)))) pa_nil)))))))))

abbrev s__law_verdict_ : Stmt := topS 42
abbrev N__law_verdict : List Str := ["town", "shut", "thing", "many", "goal", "steps", "k", "here", "there", "minutes", "row", "low", "whole", "left", "some", "good", "step"]
theorem sc__law_verdict : FnScope N__law_verdict ["town", "shut", "thing"] (defScope s__law_verdict_) := ⟨rfl, rfl, rfl, by decide +kernel, rfl, by decide +kernel, by decide +kernel⟩
def t__law_verdict_b1 (K : PySem.W.Frag) (s__law_steps : Sp) : TS :=
  tIfS (tTest (tOp (uEq K true) (tOp (uIx K) (tOp (uIx K) (tVar 2) (tVar 4)) (tVar 4)) (tC (.int 0)))) (tRet (tTupU (tCons (tC (.str "goal")) (tCons (tVar 4) (tNil))))) (tNext)
def t__law_verdict_b2 (K : PySem.W.Frag) (s__law_steps : Sp) : TS :=
  tSeq (tAsg (tOp (uIx K) (tVar 10) (tVar 8)) (gName 11)) (tIfS (tAnd (tTest (tOp rNotN (tVar 11) (tC .non))) (tOr (tTest (tOp rIsN (tOp (uIx K) (tVar 10) (tVar 7)) (tC .non))) (tTest (tOp (rI0 fun i j => .bl (decide (j < i))) (tOp (rI0 fun i j => .int (i - j)) (tOp (uIx K) (tVar 10) (tVar 7)) (tVar 9)) (tVar 11))))) (tRet (tTupU (tCons (tC (.str "steep")) (tCons (tVar 6) (tNil))))) (tNext))
def t__law_verdict_b3 (K : PySem.W.Frag) (s__law_steps : Sp) : TS :=
  tFor (iU K (tVar 2)) (gName 10) (t__law_verdict_b2 K s__law_steps)
def t__law_verdict_b4 (K : PySem.W.Frag) (s__law_steps : Sp) : TS :=
  tSeq (tAsg (tOp (uIx K) (tOp (uIx K) (tVar 2) (tVar 4)) (tVar 7)) (gName 12)) (tSeq (tAsg (tLc (iU K (tVar 5)) (gName 16) (tTest (tOp (uEq K false) (tOp (uIx K) (tVar 16) (tC (.int 1))) (tVar 7))) (tOp (uIx K) (tOp (uIx K) (tVar 2) (tVar 4)) (tOp (uIx K) (tVar 16) (tC (.int 2)))) [16]) (gName 13)) (tSeq (tAsg (tLc (iU K (tVar 5)) (gName 16) (tTest (tOp (uEq K false) (tOp (uIx K) (tVar 16) (tC (.int 1))) (tVar 7))) (tOp (uIx K) (tVar 16) (tC (.int 3))) [16]) (gName 14)) (tSeq (tAsg (tLc (iRng1 (tCons (tCB (uLen K) (tCons (tVar 13) (tNil))) (tNil))) (gName 6) (tAnd (tTest (tOp rNotN (tOp (uIx K) (tVar 13) (tVar 6)) (tC .non))) (tTest (tOp (uEq K false) (tOp (uAdd K) (tOp (uIx K) (tVar 13) (tVar 6)) (tOp (uIx K) (tVar 14) (tVar 6))) (tVar 12)))) (tVar 6) [6]) (gName 15)) (tIfS (tAnd (tTest (tOp (uEq K true) (tVar 7) (tVar 4))) (tAnd (tTest (tOp rNotN (tVar 12) (tC .non))) (tTest (tOp (uEq K false) (tVar 15) (tLstU (tNil)))))) (tRet (tTupU (tCons (tC (.str "slack")) (tCons (tVar 7) (tNil))))) (tNext)))))
def t__law_verdict_b5 (K : PySem.W.Frag) (s__law_steps : Sp) : TS :=
  tFor (iRng1 (tCons (tVar 3) (tNil))) (gName 4) (t__law_verdict_b4 K s__law_steps)
def t__law_verdict_r1 (K : PySem.W.Frag) (s__law_steps : Sp) : TS :=
  tRet (tC (.bl true))
def t__law_verdict_r2 (K : PySem.W.Frag) (s__law_steps : Sp) : TS :=
  tSeq (tFor (iRng1 (tCons (tVar 3) (tNil))) (gName 7) (t__law_verdict_b5 K s__law_steps)) (t__law_verdict_r1 K s__law_steps)
def t__law_verdict_r3 (K : PySem.W.Frag) (s__law_steps : Sp) : TS :=
  tSeq (tAsg (tGo s__law_steps E0 (tCons (tVar 0) (tCons (tVar 1) (tNil)))) (gName 5)) (tSeq (tFor (iU K (tVar 5)) (gTup K 4 (gCons (gName 6) (gCons (gName 7) (gCons (gName 8) (gCons (gName 9) (gNil)))))) (t__law_verdict_b3 K s__law_steps)) (t__law_verdict_r2 K s__law_steps))
def t__law_verdict (K : PySem.W.Frag) (s__law_steps : Sp) : TS :=
  tSeq (tAsg (tCB (uLen K) (tCons (tOp (uIx K) (tVar 0) (tC (.int 0))) (tNil))) (gName 3)) (tSeq (tFor (iRng1 (tCons (tVar 3) (tNil))) (gName 4) (t__law_verdict_b1 K s__law_steps)) (t__law_verdict_r3 K s__law_steps))
theorem dv__law_verdict {P : Program} {w : World} {K : PySem.W.Frag} {mg : Str → Option Value} {b : Heap} {a : Addr} {d : FuncData} {sp : Sp} (F : Fn K mg "_law_verdict" s__law_verdict_ a d ["town", "shut", "thing"])
    (n_len : mg "len" = none)
    (n_range : mg "range" = none)
    {a__law_steps : Addr} {d__law_steps : FuncData} {s__law_steps : Sp} (F__law_steps : Fn K mg "_law_steps" s__law_steps_ a__law_steps d__law_steps ["town", "shut"]) (k__law_steps : Keeps P w K mg b CX0 2 a__law_steps d__law_steps ["town", "shut"] s__law_steps)
    (len : ∀ vs H Q E, sp vs H Q E → vs.length = 3)
    (rd : ∀ vs H Q E, sp vs H Q E → run (t__law_verdict K s__law_steps) (start N__law_verdict vs) H Q) : Keeps P w K mg b CX0 3 a d ["town", "shut", "thing"] sp := by
  refine keeps0 F.fn sc__law_verdict len fun cdv A o s H vs Q E hr h => ⟨t__law_verdict K s__law_steps, ?_, rd vs H Q E h⟩
  unfold t__law_verdict t__law_verdict_r3 t__law_verdict_r2 t__law_verdict_r1 t__law_verdict_b5 t__law_verdict_b4 t__law_verdict_b3 t__law_verdict_b2 t__law_verdict_b1
  exact (pss_cons (ps_set (i := 3) sc__law_verdict.nd rfl (.inl rfl) (pe_callB call_uLen (by rfl) n_len (by decide +kernel) (pa_cons (pe_ix ix_u (pv 0) pe_int (fun _ _ => rfl)) pa_nil)))
  (pss_cons (ps_for PassesOwn.never rfl (pi_range1 (by rfl) n_range (pa_cons (pv 3) pa_nil)) (pg_name (i := 4) sc__law_verdict.nd rfl (.inr rfl)) (pss_one (ps_if (pt_cmpR (op_uNe hr.rm.units) (pe_ix ix_u (pe_ix ix_u (pv 2) (pv 4) (fun _ _ => rfl)) (pv 4) (fun _ _ => rfl)) pe_int (nomark _)) (pss_one (ps_ret (pe_tupU (pa_cons pe_str (pa_cons (pv 4) pa_nil))))) pss_nil)))
  (pss_cons (ps_set (i := 5) sc__law_verdict.nd rfl (.inl rfl) (pe_go k__law_steps (hr.mono (by decide)) rfl F__law_steps.g F__law_steps.fn.kp F__law_steps.b pass0 (pa_cons (pv 0) (pa_cons (pv 1) pa_nil))))
  (pss_cons (ps_for PassesOwn.never rfl (pi_u (pv 5)) (pg_tup rfl (pgs_cons (pg_name (i := 6) sc__law_verdict.nd rfl (.inl rfl)) (pgs_cons (pg_name (i := 7) sc__law_verdict.nd rfl (.inr rfl)) (pgs_cons (pg_name (i := 8) sc__law_verdict.nd rfl (.inl rfl)) (pgs_cons (pg_name (i := 9) sc__law_verdict.nd rfl (.inl rfl)) pgs_nil))))) (pss_one (ps_for PassesOwn.never rfl (pi_u (pv 2)) (pg_name (i := 10) sc__law_verdict.nd rfl (.inl rfl)) (pss_cons (ps_set (i := 11) sc__law_verdict.nd rfl (.inl rfl) (pe_ix ix_u (pv 10) (pv 8) (fun _ _ => rfl)))
  (pss_one (ps_if (PW.pt (pw_and (pt_cmpR op_notN (pv 11) pe_non (nomark _)) (pw_and1 (PW.pt (pw_or (pt_cmpR op_isN (pe_ix ix_u (pv 10) (pv 7) (fun _ _ => rfl)) pe_non (nomark _)) (pw_or1 (pt_cmpR op_gt (pe_op op_sub (pe_ix ix_u (pv 10) (pv 7) (fun _ _ => rfl)) (pv 9)) (pv 11) (nomark _)))))))) (pss_one (ps_ret (pe_tupU (pa_cons pe_str (pa_cons (pv 6) pa_nil))))) pss_nil))))))
  (pss_cons (ps_for PassesOwn.never rfl (pi_range1 (by rfl) n_range (pa_cons (pv 3) pa_nil)) (pg_name (i := 7) sc__law_verdict.nd rfl (.inr rfl)) (pss_one (ps_for PassesOwn.never rfl (pi_range1 (by rfl) n_range (pa_cons (pv 3) pa_nil)) (pg_name (i := 4) sc__law_verdict.nd rfl (.inr rfl)) (pss_cons (ps_set (i := 12) sc__law_verdict.nd rfl (.inr rfl) (pe_ix ix_u (pe_ix ix_u (pv 2) (pv 4) (fun _ _ => rfl)) (pv 7) (fun _ _ => rfl)))
  (pss_cons (ps_set (i := 13) sc__law_verdict.nd rfl (.inr rfl) (pe_lc (own := [("step", 16)]) rfl sc__law_verdict.nd (pi_u (pv 5)) (blkOk_by (own := [("step", 16)]) (N := N__law_verdict) (sc := defScope s__law_verdict_) (by decide +kernel)) (fun _ _ _ _ _ => (pg_name (i := 16) sc__law_verdict.nd rfl (.inl rfl))) (fun _ _ _ _ _ => (pts_one (pt_cmpR (op_uEq hr.rm.units) (pe_ix ix_u (pv 16) pe_int (fun _ _ => rfl)) (pv 7) (nomark _)))) (fun _ _ _ _ _ => (pe_ix ix_u (pe_ix ix_u (pv 2) (pv 4) (fun _ _ => rfl)) (pe_ix ix_u (pv 16) pe_int (fun _ _ => rfl)) (fun _ _ => rfl)))))
  (pss_cons (ps_set (i := 14) sc__law_verdict.nd rfl (.inr rfl) (pe_lc (own := [("step", 16)]) rfl sc__law_verdict.nd (pi_u (pv 5)) (blkOk_by (own := [("step", 16)]) (N := N__law_verdict) (sc := defScope s__law_verdict_) (by decide +kernel)) (fun _ _ _ _ _ => (pg_name (i := 16) sc__law_verdict.nd rfl (.inl rfl))) (fun _ _ _ _ _ => (pts_one (pt_cmpR (op_uEq hr.rm.units) (pe_ix ix_u (pv 16) pe_int (fun _ _ => rfl)) (pv 7) (nomark _)))) (fun _ _ _ _ _ => (pe_ix ix_u (pv 16) pe_int (fun _ _ => rfl)))))
  (pss_cons (ps_setLc (i := 15) (own := [("k", 6)]) rfl sc__law_verdict.nd rfl rfl (sw_true rfl rfl rfl (by decide +kernel)) (pi_range1 (by rfl) n_range (pa_cons (pe_callB call_uLen (by rfl) n_len (by decide +kernel) (pa_cons (pv 13) pa_nil)) pa_nil)) (blkOk_by (own := [("k", 6)]) (N := N__law_verdict) (sc := defScope s__law_verdict_) (by decide +kernel)) (fun _ _ _ _ _ => (pg_name (i := 6) sc__law_verdict.nd rfl (.inl rfl))) (fun _ _ _ _ _ => (pts_one (PW.pt (pw_and (pt_cmpR op_notN (pe_ix ix_u (pv 13) (pv 6) (fun _ _ => rfl)) pe_non (nomark _)) (pw_and1 (pt_cmpR (op_uEq hr.rm.units) (pe_op op_uAdd (pe_ix ix_u (pv 13) (pv 6) (fun _ _ => rfl)) (pe_ix ix_u (pv 14) (pv 6) (fun _ _ => rfl))) (pv 12) (nomark _))))))) (fun _ _ _ _ _ => (pv 6)))
  (pss_one (ps_if (PW.pt (pw_and (pt_cmpR (op_uNe hr.rm.units) (pv 7) (pv 4) (nomark _)) (pw_and (pt_cmpR op_notN (pv 12) pe_non (nomark _)) (pw_and1 (pt_cmpR (op_uEq hr.rm.units) (pv 15) (pe_lstU pa_nil) (nomark _)))))) (pss_one (ps_ret (pe_tupU (pa_cons pe_str (pa_cons (pv 7) pa_nil))))) pss_nil)))))))))
  (pss_one (ps_ret pe_bl)))))))

abbrev s__law_told_ : Stmt := topS 43
abbrev N__law_told : List Str := ["town", "shut", "thing", "found", "e", "alone"]
theorem sc__law_told : FnScope N__law_told ["town", "shut", "thing"] (defScope s__law_told_) := ⟨rfl, rfl, rfl, by decide +kernel, rfl, by decide +kernel, by decide +kernel⟩
def t__law_told_r1 (K : PySem.W.Frag) (s_lets_chart : Sp) (c_WagonError : Addr) (c_NoDeed : Addr) (c_NoRow : Addr) (c_NoLog : Addr) (c_TooMany : Addr) (c_Late : Addr) (c_NoCall : Addr) (c_NoTelling : Addr) (c_NoMoment : Addr) (c_NoTown : Addr) (c_NoText : Addr) (c_NoPaper : Addr) : TS :=
  tRet (tVar 3)
def t__law_told (K : PySem.W.Frag) (s_lets_chart : Sp) (c_WagonError : Addr) (c_NoDeed : Addr) (c_NoRow : Addr) (c_NoLog : Addr) (c_TooMany : Addr) (c_Late : Addr) (c_NoCall : Addr) (c_NoTelling : Addr) (c_NoMoment : Addr) (c_NoTown : Addr) (c_NoText : Addr) (c_NoPaper : Addr) : TS :=
  tSeq (tTryAs K c_WagonError 4 (fun W => tAsg (tGoS s_lets_chart (WE W) (tCons (tVar 0) (tCons (tVar 1) (tCons (tVar 2) (tNil))))) (gName 3)) (fun a cls d => tSeq (tAsg (tTupU (tCons (tC (.str "other")) (tCons (tUn (rU fun i => .int (-i)) (tC (.int 1))) (tNil)))) (gName 3)) (tSeq (tAsg (tNotT K (tCB (rIsA K a cls d) (tCons (tVar 4) (tCons (tTupU (tCons (tC (.ref c_NoText)) (tCons (tC (.ref c_NoTown)) (tCons (tC (.ref c_NoMoment)) (tCons (tC (.ref c_NoTelling)) (tCons (tC (.ref c_NoCall)) (tCons (tC (.ref c_Late)) (tCons (tC (.ref c_TooMany)) (tCons (tC (.ref c_NoLog)) (tCons (tC (.ref c_NoRow)) (tCons (tC (.ref c_NoDeed)) (tNil)))))))))))) (tNil))))) (gName 5)) (tIfS (tAnd (tTru K (tCB (rIsA K a cls d) (tCons (tVar 4) (tCons (tC (.ref c_NoPaper)) (tNil))))) (tAnd (tTru K (tCB (rIsA K a cls d) (tCons (tVar 4) (tCons (tC (.ty "ValueError")) (tNil))))) (tAnd (tTru K (tVar 5)) (tNot (tTru K (tCB (rIsi K) (tCons (tXfA K a cls d "at" (tVar 4)) (tCons (tC (.ty "bool")) (tNil))))))))) (tAsg (tTupU (tCons (tXfA K a cls d "word" (tVar 4)) (tCons (tXfA K a cls d "at" (tVar 4)) (tNil)))) (gName 3)) (tNext))))) (t__law_told_r1 K s_lets_chart c_WagonError c_NoDeed c_NoRow c_NoLog c_TooMany c_Late c_NoCall c_NoTelling c_NoMoment c_NoTown c_NoText c_NoPaper)
theorem dv__law_told {P : Program} {w : World} {K : PySem.W.Frag} {mg : Str → Option Value} {b : Heap} {a : Addr} {d : FuncData} {sp : Sp} (F : Fn K mg "_law_told" s__law_told_ a d ["town", "shut", "thing"])
    {c_WagonError : Addr}
    {c_NoDeed : Addr}
    {c_NoRow : Addr}
    {c_NoLog : Addr}
    {c_TooMany : Addr}
    {c_Late : Addr}
    {c_NoCall : Addr}
    {c_NoTelling : Addr}
    {c_NoMoment : Addr}
    {c_NoTown : Addr}
    {c_NoText : Addr}
    {c_NoPaper : Addr}
    (g_WagonError : mg "WagonError" = some (.ref c_WagonError))
    (g_NoDeed : mg "NoDeed" = some (.ref c_NoDeed))
    (g_NoRow : mg "NoRow" = some (.ref c_NoRow))
    (g_NoLog : mg "NoLog" = some (.ref c_NoLog))
    (g_TooMany : mg "TooMany" = some (.ref c_TooMany))
    (g_Late : mg "Late" = some (.ref c_Late))
    (g_NoCall : mg "NoCall" = some (.ref c_NoCall))
    (g_NoTelling : mg "NoTelling" = some (.ref c_NoTelling))
    (g_NoMoment : mg "NoMoment" = some (.ref c_NoMoment))
    (g_NoTown : mg "NoTown" = some (.ref c_NoTown))
    (g_NoText : mg "NoText" = some (.ref c_NoText))
    (g_NoPaper : mg "NoPaper" = some (.ref c_NoPaper))
    {a_lets_chart : Addr} {d_lets_chart : FuncData} {s_lets_chart : Sp} (F_lets_chart : Fn K mg "lets_chart" s_lets_chart_ a_lets_chart d_lets_chart ["town", "shut", "thing"]) (k_lets_chart : Keeps P w K mg b (L2.CX P w) 8 a_lets_chart d_lets_chart ["town", "shut", "thing"] s_lets_chart)
    (n_isinstance : mg "isinstance" = none)
    (n_ValueError : mg "ValueError" = none)
    (n_bool : mg "bool" = none)
    (len : ∀ vs H Q E, sp vs H Q E → vs.length = 3)
    (rd : ∀ vs H Q E, sp vs H Q E → run (t__law_told K s_lets_chart c_WagonError c_NoDeed c_NoRow c_NoLog c_TooMany c_Late c_NoCall c_NoTelling c_NoMoment c_NoTown c_NoText c_NoPaper) (start N__law_told vs) H Q) : Keeps P w K mg b CX0 9 a d ["town", "shut", "thing"] sp := by
  refine keeps0 F.fn sc__law_told len fun cdv A o s H vs Q E hr h => ⟨t__law_told K s_lets_chart c_WagonError c_NoDeed c_NoRow c_NoLog c_TooMany c_Late c_NoCall c_NoTelling c_NoMoment c_NoTown c_NoText c_NoPaper, ?_, rd vs H Q E h⟩
  unfold t__law_told t__law_told_r1
  exact (pss_cons (ps_try_as (i := 4) rfl rfl sc__law_told.nd rfl rfl ⟨by rfl, by decide, .inl g_WagonError⟩ takes0 (fun W pn xe tk _ => (pss_one (ps_set (i := 3) sc__law_told.nd rfl (.inl rfl) (pe_goS k_lets_chart (hr.mono (by decide)) (by rfl) F_lets_chart.g F_lets_chart.fn.kp F_lets_chart.b (fun σ => passAt tk σ) (pa_cons (pv 0) (pa_cons (pv 1) (pa_cons (pv 2) pa_nil))))))) (fun a oe cls d pn hz hf => (pss_cons (ps_set (i := 3) sc__law_told.nd rfl (.inl rfl) (pe_tupU (pa_cons pe_str (pa_cons (pe_un un_neg pe_int) pa_nil))))
  (pss_cons (ps_set (i := 5) sc__law_told.nd rfl (.inl rfl) (pe_notT (pe_callB (call_isA hz hf) (by rfl) n_isinstance (by decide +kernel) (pa_cons (pv 4) (pa_cons (pe_tupU (pa_cons (pe_glob rfl g_NoText rfl) (pa_cons (pe_glob rfl g_NoTown rfl) (pa_cons (pe_glob rfl g_NoMoment rfl) (pa_cons (pe_glob rfl g_NoTelling rfl) (pa_cons (pe_glob rfl g_NoCall rfl) (pa_cons (pe_glob rfl g_Late rfl) (pa_cons (pe_glob rfl g_TooMany rfl) (pa_cons (pe_glob rfl g_NoLog rfl) (pa_cons (pe_glob rfl g_NoRow rfl) (pa_cons (pe_glob rfl g_NoDeed rfl) pa_nil))))))))))) pa_nil)))))
  (pss_one (ps_if (PW.pt (pw_and (pt_tru (pe_callB (call_isA hz hf) (by rfl) n_isinstance (by decide +kernel) (pa_cons (pv 4) (pa_cons (pe_glob rfl g_NoPaper rfl) pa_nil)))) (pw_and (pt_tru (pe_callB (call_isA hz hf) (by rfl) n_isinstance (by decide +kernel) (pa_cons (pv 4) (pa_cons (pe_bltn (v := .ty "ValueError") (by rfl) n_ValueError (by decide +kernel) rfl) pa_nil)))) (pw_and (pt_tru (pv 5)) (pw_and1 (pt_not (pt_tru (pe_callB call_isi (by rfl) n_isinstance (by decide +kernel) (pa_cons (pe_xfA hz hf (pv 4)) (pa_cons (pe_bltn (v := .ty "bool") (by rfl) n_bool (by decide +kernel) rfl) pa_nil)))))))))) (pss_one (ps_set (i := 3) sc__law_told.nd rfl (.inl rfl) (pe_tupU (pa_cons (pe_xfA hz hf (pv 4)) (pa_cons (pe_xfA hz hf (pv 4)) pa_nil))))) pss_nil))))))
  (pss_one (ps_ret (pv 3))))

abbrev s__law_twin_ : Stmt := topS 44
abbrev N__law_twin : List Str := ["town", "row", "roads", "at", "one", "other", "there", "back", "part"]
theorem sc__law_twin : FnScope N__law_twin ["town", "row"] (defScope s__law_twin_) := ⟨rfl, rfl, rfl, by decide +kernel, rfl, by decide +kernel, by decide +kernel⟩
def t__law_twin_r1 (K : PySem.W.Frag) : TS :=
  tAsg (tTupU (tCons (tVar 4) (tCons (tVar 5) (tCons (tVar 6) (tCons (tVar 7) (tNil)))))) (gSub (tVar 2) (tVar 3) uSetL)
def t__law_twin_r2 (K : PySem.W.Frag) : TS :=
  tRet (tTupU (tCons (tOp (uIx K) (tVar 0) (tC (.int 0))) (tCons (tCB (uTuple K) (tCons (tVar 2) (tNil))) (tCons (tOp (uIx K) (tVar 0) (tC (.int 2))) (tCons (tOp (uIx K) (tVar 0) (tC (.int 3))) (tNil))))))
def t__law_twin (K : PySem.W.Frag) : TS :=
  tSeq (tAsg (tCB (uList K) (tCons (tOp (uIx K) (tVar 0) (tC (.int 1))) (tNil))) (gName 2)) (tSeq (tIfS (tTest (tOp (uEq K true) (tVar 2) (tLstU (tNil)))) (tSeq (tAsg (tOp (rI (fun _ j => 0 < j) fun i j => .int (i % j)) (tOp (uIx K) (tVar 1) (tC (.int 0))) (tCB (uLen K) (tCons (tVar 2) (tNil)))) (gName 3)) (tSeq (tAsg (tOp (uIx K) (tVar 2) (tVar 3)) (gTup K 4 (gCons (gName 4) (gCons (gName 5) (gCons (gName 6) (gCons (gName 7) (gNil))))))) (tSeq (tIfS (tTest (tOp (uEq K false) (tOp (rI (fun _ j => 0 < j) fun i j => .int (i % j)) (tOp (uIx K) (tVar 1) (tC (.int 1))) (tC (.int 3))) (tC (.int 0)))) (tPar 6 7 (tCons (tVar 7) (tCons (tVar 6) (tNil)))) (tIfS (tTest (tOp (uEq K false) (tOp (rI (fun _ j => 0 < j) fun i j => .int (i % j)) (tOp (uIx K) (tVar 1) (tC (.int 1))) (tC (.int 3))) (tC (.int 1)))) (tPar 4 5 (tCons (tVar 5) (tCons (tVar 4) (tNil)))) (tAsg (tOp (uIx K) (tLc (iU K (tLstU (tCons (tVar 6) (tNil)))) (gName 8) (tYes) (tIf (tTest (tOp rIsN (tVar 8) (tC .non))) (tVar 8) (tOp (uAdd K) (tVar 8) (tOp (uIx K) (tLstU (tCons (tC (.int 1)) (tCons (tUn (rU fun i => .int (-i)) (tC (.int 1))) (tNil)))) (tCB (uInt) (tCons (tOp (uEq K false) (tVar 8) (tC (.int 60))) (tNil)))))) [8]) (tC (.int 0))) (gName 6)))) (t__law_twin_r1 K)))) (tNext)) (t__law_twin_r2 K))
theorem dv__law_twin {P : Program} {w : World} {K : PySem.W.Frag} {mg : Str → Option Value} {b : Heap} {a : Addr} {d : FuncData} {sp : Sp} (F : Fn K mg "_law_twin" s__law_twin_ a d ["town", "row"])
    (n_list : mg "list" = none)
    (n_len : mg "len" = none)
    (n_int : mg "int" = none)
    (n_tuple : mg "tuple" = none)
    (len : ∀ vs H Q E, sp vs H Q E → vs.length = 2)
    (rd : ∀ vs H Q E, sp vs H Q E → run (t__law_twin K) (start N__law_twin vs) H Q) : Keeps P w K mg b CX0 2 a d ["town", "row"] sp := by
  refine keeps0 F.fn sc__law_twin len fun cdv A o s H vs Q E hr h => ⟨t__law_twin K, ?_, rd vs H Q E h⟩
  unfold t__law_twin t__law_twin_r2 t__law_twin_r1
  exact (pss_cons (ps_set (i := 2) sc__law_twin.nd rfl (.inl rfl) (pe_callTy call_uList (by rfl) n_list (by decide +kernel) (pa_cons (pe_ix ix_u (pv 0) pe_int (fun _ _ => rfl)) pa_nil)))
  (pss_cons (ps_if (pt_cmpR (op_uNe hr.rm.units) (pv 2) (pe_lstU pa_nil) (nomark _)) (pss_cons (ps_set (i := 3) sc__law_twin.nd rfl (.inl rfl) (pe_op op_mod (pe_ix ix_u (pv 1) pe_int (fun _ _ => rfl)) (pe_callB call_uLen (by rfl) n_len (by decide +kernel) (pa_cons (pv 2) pa_nil))))
  (pss_cons (ps_asg (pe_ix ix_u (pv 2) (pv 3) (fun _ _ => rfl)) (pg_tup rfl (pgs_cons (pg_name (i := 4) sc__law_twin.nd rfl (.inl rfl)) (pgs_cons (pg_name (i := 5) sc__law_twin.nd rfl (.inl rfl)) (pgs_cons (pg_name (i := 6) sc__law_twin.nd rfl (.inl rfl)) (pgs_cons (pg_name (i := 7) sc__law_twin.nd rfl (.inl rfl)) pgs_nil))))))
  (pss_cons (ps_if (pt_cmpR (op_uEq hr.rm.units) (pe_op op_mod (pe_ix ix_u (pv 1) pe_int (fun _ _ => rfl)) pe_int) pe_int (nomark _)) (pss_one (ps_par (i := 6) (j := 7) rfl sc__law_twin.nd rfl rfl (by decide) rfl rfl (pa_cons (pv 7) (pa_cons (pv 6) pa_nil)) (by rfl))) (pss_one (ps_if (pt_cmpR (op_uEq hr.rm.units) (pe_op op_mod (pe_ix ix_u (pv 1) pe_int (fun _ _ => rfl)) pe_int) pe_int (nomark _)) (pss_one (ps_par (i := 4) (j := 5) rfl sc__law_twin.nd rfl rfl (by decide) rfl rfl (pa_cons (pv 5) (pa_cons (pv 4) pa_nil)) (by rfl))) (pss_one (ps_set (i := 6) sc__law_twin.nd rfl (.inl rfl) (pe_ix ix_u (pe_lc (own := [("part", 8)]) rfl sc__law_twin.nd (pi_u (pe_lstU (pa_cons (pv 6) pa_nil))) (blkOk_by (own := [("part", 8)]) (N := N__law_twin) (sc := defScope s__law_twin_) (by decide +kernel)) (fun _ _ _ _ _ => (pg_name (i := 8) sc__law_twin.nd rfl (.inl rfl))) (fun _ _ _ _ _ => pts_nil) (fun _ _ _ _ _ => (pe_ifExp (pt_cmpR op_isN (pv 8) pe_non (nomark _)) (pv 8) (pe_op op_uAdd (pv 8) (pe_ix ix_u (pe_lstU (pa_cons pe_int (pa_cons (pe_un un_neg pe_int) pa_nil))) (pe_callTy call_uInt (by rfl) n_int (by decide +kernel) (pa_cons (pe_cmpR (op_uEq hr.rm.units) (pv 8) pe_int (nomark _)) pa_nil)) (fun _ _ => rfl)))))) pe_int (fun _ _ => rfl)))))))
  (pss_one (ps_asg (pe_tupU (pa_cons (pv 4) (pa_cons (pv 5) (pa_cons (pv 6) (pa_cons (pv 7) pa_nil))))) (pg_sub (pv 2) (pv 3) set_u)))))) pss_nil)
  (pss_one (ps_ret (pe_tupU (pa_cons (pe_ix ix_u (pv 0) pe_int (fun _ _ => rfl)) (pa_cons (pe_callTy call_uTuple (by rfl) n_tuple (by decide +kernel) (pa_cons (pv 2) pa_nil)) (pa_cons (pe_ix ix_u (pv 0) pe_int (fun _ _ => rfl)) (pa_cons (pe_ix ix_u (pv 0) pe_int (fun _ _ => rfl)) pa_nil)))))))))

abbrev s__law_first_ : Stmt := topS 45
abbrev N__law_first : List Str := ["town", "shut", "chart", "here", "goal", "whole", "found", "number", "one", "there", "minutes", "left"]
theorem sc__law_first : FnScope N__law_first ["town", "shut", "chart", "here", "goal"] (defScope s__law_first_) := ⟨rfl, rfl, rfl, by decide +kernel, rfl, by decide +kernel, by decide +kernel⟩
def t__law_first_b1 (K : PySem.W.Frag) (s__law_steps : Sp) : TS :=
  tSeq (tAsg (tOp (uIx K) (tOp (uIx K) (tVar 2) (tVar 4)) (tVar 9)) (gName 11)) (tIfS (tAnd (tTest (tOp (uEq K true) (tVar 3) (tVar 4))) (tAnd (tTest (tOp (uEq K false) (tVar 8) (tVar 3))) (tAnd (tTest (tOp rNotN (tVar 11) (tC .non))) (tTest (tOp (uEq K false) (tOp (uAdd K) (tVar 11) (tVar 10)) (tVar 5)))))) (tDrop (tBM K "list" uAppend (tVar 6) (tCons (tVar 7) (tNil)))) (tNext))
def t__law_first_r1 (K : PySem.W.Frag) (s__law_steps : Sp) : TS :=
  tRet (tOp (uIx K) (tVar 6) (tUn (rU fun i => .int (-i)) (tC (.int 1))))
def t__law_first (K : PySem.W.Frag) (s__law_steps : Sp) : TS :=
  tSeq (tAsg (tOp (uIx K) (tOp (uIx K) (tVar 2) (tVar 4)) (tVar 3)) (gName 5)) (tSeq (tAsg (tLstU (tCons (tC .non) (tNil))) (gName 6)) (tSeq (tFor (iRev K (tCons (tGo s__law_steps E0 (tCons (tVar 0) (tCons (tVar 1) (tNil)))) (tNil))) (gTup K 4 (gCons (gName 7) (gCons (gName 8) (gCons (gName 9) (gCons (gName 10) (gNil)))))) (t__law_first_b1 K s__law_steps)) (t__law_first_r1 K s__law_steps)))
theorem dv__law_first {P : Program} {w : World} {K : PySem.W.Frag} {mg : Str → Option Value} {b : Heap} {a : Addr} {d : FuncData} {sp : Sp} (F : Fn K mg "_law_first" s__law_first_ a d ["town", "shut", "chart", "here", "goal"])
    (n_reversed : mg "reversed" = none)
    {a__law_steps : Addr} {d__law_steps : FuncData} {s__law_steps : Sp} (F__law_steps : Fn K mg "_law_steps" s__law_steps_ a__law_steps d__law_steps ["town", "shut"]) (k__law_steps : Keeps P w K mg b CX0 2 a__law_steps d__law_steps ["town", "shut"] s__law_steps)
    (len : ∀ vs H Q E, sp vs H Q E → vs.length = 5)
    (rd : ∀ vs H Q E, sp vs H Q E → run (t__law_first K s__law_steps) (start N__law_first vs) H Q) : Keeps P w K mg b CX0 3 a d ["town", "shut", "chart", "here", "goal"] sp := by
  refine keeps0 F.fn sc__law_first len fun cdv A o s H vs Q E hr h => ⟨t__law_first K s__law_steps, ?_, rd vs H Q E h⟩
  unfold t__law_first t__law_first_r1 t__law_first_b1
  exact (pss_cons (ps_set (i := 5) sc__law_first.nd rfl (.inl rfl) (pe_ix ix_u (pe_ix ix_u (pv 2) (pv 4) (fun _ _ => rfl)) (pv 3) (fun _ _ => rfl)))
  (pss_cons (ps_set (i := 6) sc__law_first.nd rfl (.inl rfl) (pe_lstU (pa_cons pe_non pa_nil)))
  (pss_cons (ps_for PassesOwn.never rfl (pi_reversed (by rfl) n_reversed (pa_cons (pe_go k__law_steps (hr.mono (by decide)) rfl F__law_steps.g F__law_steps.fn.kp F__law_steps.b pass0 (pa_cons (pv 0) (pa_cons (pv 1) pa_nil))) pa_nil)) (pg_tup rfl (pgs_cons (pg_name (i := 7) sc__law_first.nd rfl (.inl rfl)) (pgs_cons (pg_name (i := 8) sc__law_first.nd rfl (.inl rfl)) (pgs_cons (pg_name (i := 9) sc__law_first.nd rfl (.inl rfl)) (pgs_cons (pg_name (i := 10) sc__law_first.nd rfl (.inl rfl)) pgs_nil))))) (pss_cons (ps_set (i := 11) sc__law_first.nd rfl (.inl rfl) (pe_ix ix_u (pe_ix ix_u (pv 2) (pv 4) (fun _ _ => rfl)) (pv 9) (fun _ _ => rfl)))
  (pss_one (ps_if (PW.pt (pw_and (pt_cmpR (op_uNe hr.rm.units) (pv 3) (pv 4) (nomark _)) (pw_and (pt_cmpR (op_uEq hr.rm.units) (pv 8) (pv 3) (nomark _)) (pw_and (pt_cmpR op_notN (pv 11) pe_non (nomark _)) (pw_and1 (pt_cmpR (op_uEq hr.rm.units) (pe_op op_uAdd (pv 11) (pv 10)) (pv 5) (nomark _))))))) (pss_one (ps_expr (pe_bm PySem.F.plainAttrs_list PySem.F.slot_list_append PySem.F.type_list_append mt_uAppend (pv 6) (pa_cons (pv 7) pa_nil)))) pss_nil))))
  (pss_one (ps_ret (pe_ix ix_u (pv 6) (pe_un un_neg pe_int) (fun _ _ => rfl)))))))

abbrev s__law_way_ : Stmt := topS 46
abbrev N__law_way : List Str := ["town", "shut", "chart", "here", "goal", "roads", "number", "step"]
theorem sc__law_way : FnScope N__law_way ["town", "shut", "chart", "here", "goal"] (defScope s__law_way_) := ⟨rfl, rfl, rfl, by decide +kernel, rfl, by decide +kernel, by decide +kernel⟩
def t__law_way_r1 (K : PySem.W.Frag) (s__law_first : Sp) (s__law_steps : Sp) : TS :=
  tRet (tCB (uTuple K) (tCons (tVar 5) (tNil)))
def t__law_way_r2 (K : PySem.W.Frag) (s__law_first : Sp) (s__law_steps : Sp) : TS :=
  tSeq (tAsg (tLstU (tNil)) (gName 5)) (tSeq (tWhile (tTest (tOp (uEq K true) (tVar 3) (tVar 4))) (tSeq (tAsg (tGo s__law_first E0 (tCons (tVar 0) (tCons (tVar 1) (tCons (tVar 2) (tCons (tVar 3) (tCons (tVar 4) (tNil))))))) (gName 6)) (tSeq (tAsg (tOp (uIx K) (tLc (iU K (tGo s__law_steps E0 (tCons (tVar 0) (tCons (tVar 1) (tNil))))) (gName 7) (tTest (tOp (uEq K false) (tSl (uSl K) (tVar 7) (tNoPart) (tPart (tC (.int 2)))) (tTupU (tCons (tVar 6) (tCons (tVar 3) (tNil)))))) (tOp (uIx K) (tVar 7) (tC (.int 2))) [7]) (tC (.int 0))) (gName 3)) (tDrop (tBM K "list" uAppend (tVar 5) (tCons (tVar 6) (tNil))))))) (t__law_way_r1 K s__law_first s__law_steps))
def t__law_way (K : PySem.W.Frag) (s__law_first : Sp) (s__law_steps : Sp) : TS :=
  tSeq (tIfS (tTest (tOp rIsN (tOp (uIx K) (tOp (uIx K) (tVar 2) (tVar 4)) (tVar 3)) (tC .non))) (tRet (tC .non)) (tNext)) (t__law_way_r2 K s__law_first s__law_steps)
theorem dv__law_way {P : Program} {w : World} {K : PySem.W.Frag} {mg : Str → Option Value} {b : Heap} {a : Addr} {d : FuncData} {sp : Sp} (F : Fn K mg "_law_way" s__law_way_ a d ["town", "shut", "chart", "here", "goal"])
    {a__law_first : Addr} {d__law_first : FuncData} {s__law_first : Sp} (F__law_first : Fn K mg "_law_first" s__law_first_ a__law_first d__law_first ["town", "shut", "chart", "here", "goal"]) (k__law_first : Keeps P w K mg b CX0 3 a__law_first d__law_first ["town", "shut", "chart", "here", "goal"] s__law_first)
    {a__law_steps : Addr} {d__law_steps : FuncData} {s__law_steps : Sp} (F__law_steps : Fn K mg "_law_steps" s__law_steps_ a__law_steps d__law_steps ["town", "shut"]) (k__law_steps : Keeps P w K mg b CX0 2 a__law_steps d__law_steps ["town", "shut"] s__law_steps)
    (n_tuple : mg "tuple" = none)
    (len : ∀ vs H Q E, sp vs H Q E → vs.length = 5)
    (rd : ∀ vs H Q E, sp vs H Q E → run (t__law_way K s__law_first s__law_steps) (start N__law_way vs) H Q) : Keeps P w K mg b CX0 4 a d ["town", "shut", "chart", "here", "goal"] sp := by
  refine keeps0 F.fn sc__law_way len fun cdv A o s H vs Q E hr h => ⟨t__law_way K s__law_first s__law_steps, ?_, rd vs H Q E h⟩
  unfold t__law_way t__law_way_r2 t__law_way_r1
  exact (pss_cons (ps_if (pt_cmpR op_isN (pe_ix ix_u (pe_ix ix_u (pv 2) (pv 4) (fun _ _ => rfl)) (pv 3) (fun _ _ => rfl)) pe_non (nomark _)) (pss_one (ps_ret pe_non)) pss_nil)
  (pss_cons (ps_set (i := 5) sc__law_way.nd rfl (.inl rfl) (pe_lstU pa_nil))
  (pss_cons (ps_while PassesOwn.never (pt_cmpR (op_uNe hr.rm.units) (pv 3) (pv 4) (nomark _)) (pss_cons (ps_set (i := 6) sc__law_way.nd rfl (.inr rfl) (pe_go k__law_first (hr.mono (by decide)) rfl F__law_first.g F__law_first.fn.kp F__law_first.b pass0 (pa_cons (pv 0) (pa_cons (pv 1) (pa_cons (pv 2) (pa_cons (pv 3) (pa_cons (pv 4) pa_nil)))))))
  (pss_cons (ps_set (i := 3) sc__law_way.nd rfl (.inr rfl) (pe_ix ix_u (pe_lc (own := [("step", 7)]) rfl sc__law_way.nd (pi_u (pe_go k__law_steps (hr.mono (by decide)) rfl F__law_steps.g F__law_steps.fn.kp F__law_steps.b pass0 (pa_cons (pv 0) (pa_cons (pv 1) pa_nil)))) (blkOk_by (own := [("step", 7)]) (N := N__law_way) (sc := defScope s__law_way_) (by decide +kernel)) (fun _ _ _ _ _ => (pg_name (i := 7) sc__law_way.nd rfl (.inl rfl))) (fun _ _ _ _ _ => (pts_one (pt_cmpR (op_uEq hr.rm.units) (pe_slice sl_u (pv 7) po_none (po_some pe_int)) (pe_tupU (pa_cons (pv 6) (pa_cons (pv 3) pa_nil))) (nomark _)))) (fun _ _ _ _ _ => (pe_ix ix_u (pv 7) pe_int (fun _ _ => rfl)))) pe_int (fun _ _ => rfl)))
  (pss_one (ps_expr (pe_bm PySem.F.plainAttrs_list PySem.F.slot_list_append PySem.F.type_list_append mt_uAppend (pv 5) (pa_cons (pv 6) pa_nil)))))))
  (pss_one (ps_ret (pe_callTy call_uTuple (by rfl) n_tuple (by decide +kernel) (pa_cons (pv 5) pa_nil)))))))

abbrev s__law_leads_ : Stmt := topS 48
abbrev N__law_leads : List Str := ["town", "shut", "here", "goal", "roads", "number", "there", "step"]
theorem sc__law_leads : FnScope N__law_leads ["town", "shut", "here", "goal", "roads"] (defScope s__law_leads_) := ⟨rfl, rfl, rfl, by decide +kernel, rfl, by decide +kernel, by decide +kernel⟩
def t__law_leads_r1 (K : PySem.W.Frag) (s__law_steps : Sp) : TS :=
  tAsg (tOp (uIx K) (tVar 6) (tC (.int 0))) (gName 2)
def t__law_leads_b1 (K : PySem.W.Frag) (s__law_steps : Sp) : TS :=
  tSeq (tAsg (tLc (iU K (tGo s__law_steps E0 (tCons (tVar 0) (tCons (tVar 1) (tNil))))) (gName 7) (tTest (tOp (uEq K false) (tSl (uSl K) (tVar 7) (tNoPart) (tPart (tC (.int 2)))) (tTupU (tCons (tVar 5) (tCons (tVar 2) (tNil)))))) (tOp (uIx K) (tVar 7) (tC (.int 2))) [7]) (gName 6)) (tSeq (tIfS (tTest (tOp (uEq K false) (tVar 6) (tLstU (tNil)))) (tRet (tC (.bl false))) (tNext)) (t__law_leads_r1 K s__law_steps))
def t__law_leads_r2 (K : PySem.W.Frag) (s__law_steps : Sp) : TS :=
  tRet (tOp (uEq K false) (tVar 2) (tVar 3))
def t__law_leads (K : PySem.W.Frag) (s__law_steps : Sp) : TS :=
  tSeq (tFor (iU K (tVar 4)) (gName 5) (t__law_leads_b1 K s__law_steps)) (t__law_leads_r2 K s__law_steps)
theorem dv__law_leads {P : Program} {w : World} {K : PySem.W.Frag} {mg : Str → Option Value} {b : Heap} {a : Addr} {d : FuncData} {sp : Sp} (F : Fn K mg "_law_leads" s__law_leads_ a d ["town", "shut", "here", "goal", "roads"])
    {a__law_steps : Addr} {d__law_steps : FuncData} {s__law_steps : Sp} (F__law_steps : Fn K mg "_law_steps" s__law_steps_ a__law_steps d__law_steps ["town", "shut"]) (k__law_steps : Keeps P w K mg b CX0 2 a__law_steps d__law_steps ["town", "shut"] s__law_steps)
    (len : ∀ vs H Q E, sp vs H Q E → vs.length = 5)
    (rd : ∀ vs H Q E, sp vs H Q E → run (t__law_leads K s__law_steps) (start N__law_leads vs) H Q) : Keeps P w K mg b CX0 3 a d ["town", "shut", "here", "goal", "roads"] sp := by
  refine keeps0 F.fn sc__law_leads len fun cdv A o s H vs Q E hr h => ⟨t__law_leads K s__law_steps, ?_, rd vs H Q E h⟩
  unfold t__law_leads t__law_leads_r2 t__law_leads_b1 t__law_leads_r1
  exact (pss_cons (ps_for PassesOwn.never rfl (pi_u (pv 4)) (pg_name (i := 5) sc__law_leads.nd rfl (.inr rfl)) (pss_cons (ps_setLc (i := 6) (own := [("step", 7)]) rfl sc__law_leads.nd rfl rfl (sw_true rfl rfl rfl (by decide +kernel)) (pi_u (pe_go k__law_steps (hr.mono (by decide)) rfl F__law_steps.g F__law_steps.fn.kp F__law_steps.b pass0 (pa_cons (pv 0) (pa_cons (pv 1) pa_nil)))) (blkOk_by (own := [("step", 7)]) (N := N__law_leads) (sc := defScope s__law_leads_) (by decide +kernel)) (fun _ _ _ _ _ => (pg_name (i := 7) sc__law_leads.nd rfl (.inl rfl))) (fun _ _ _ _ _ => (pts_one (pt_cmpR (op_uEq hr.rm.units) (pe_slice sl_u (pv 7) po_none (po_some pe_int)) (pe_tupU (pa_cons (pv 5) (pa_cons (pv 2) pa_nil))) (nomark _)))) (fun _ _ _ _ _ => (pe_ix ix_u (pv 7) pe_int (fun _ _ => rfl))))
  (pss_cons (ps_if (pt_cmpR (op_uEq hr.rm.units) (pv 6) (pe_lstU pa_nil) (nomark _)) (pss_one (ps_ret pe_bl)) pss_nil)
  (pss_one (ps_set (i := 2) sc__law_leads.nd rfl (.inr rfl) (pe_ix ix_u (pv 6) pe_int (fun _ _ => rfl)))))))
  (pss_one (ps_ret (pe_cmpR (op_uEq hr.rm.units) (pv 2) (pv 3) (nomark _)))))

abbrev s__law_pair_ : Stmt := topS 47
abbrev N__law_pair : List Str := ["town", "shut", "here", "goal", "asked", "thing", "chart", "one", "other", "due"]
theorem sc__law_pair : FnScope N__law_pair ["town", "shut", "here", "goal", "asked", "thing"] (defScope s__law_pair_) := ⟨rfl, rfl, rfl, by decide +kernel, rfl, by decide +kernel, by decide +kernel⟩
def t__law_pair_r1 (K : PySem.W.Frag) (s__law_chart : Sp) (s_chart_of : Sp) (s__law_first : Sp) (s_first_road : Sp) (s__law_way : Sp) (s_way : Sp) (s__law_leads : Sp) (s_is_way : Sp) (s_minutes_of : Sp) (s__law_verdict : Sp) (s__law_told : Sp) : TS :=
  tRet (tTupU (tCons (tGo s__law_told E0 (tCons (tVar 0) (tCons (tVar 1) (tCons (tVar 5) (tNil))))) (tCons (tGo s__law_verdict E0 (tCons (tVar 0) (tCons (tVar 1) (tCons (tVar 5) (tNil))))) (tNil))))
def t__law_pair_r2 (K : PySem.W.Frag) (s__law_chart : Sp) (s_chart_of : Sp) (s__law_first : Sp) (s_first_road : Sp) (s__law_way : Sp) (s_way : Sp) (s__law_leads : Sp) (s_is_way : Sp) (s_minutes_of : Sp) (s__law_verdict : Sp) (s__law_told : Sp) : TS :=
  tSeq (tIfS (tTest (tOp (uEq K false) (tVar 4) (tC (.int 4)))) (tRet (tTupU (tCons (tGo s_minutes_of E0 (tCons (tVar 0) (tCons (tVar 7) (tCons (tOrT K (tVar 9) (tTupU (tNil))) (tNil))))) (tCons (tOp (uIx K) (tLstU (tCons (tOp (uIx K) (tOp (uIx K) (tVar 6) (tVar 3)) (tVar 2)) (tCons (tC (.int 0)) (tNil)))) (tCB (uInt) (tCons (tOp rIsN (tVar 9) (tC .non)) (tNil)))) (tNil))))) (tNext)) (t__law_pair_r1 K s__law_chart s_chart_of s__law_first s_first_road s__law_way s_way s__law_leads s_is_way s_minutes_of s__law_verdict s__law_told)
def t__law_pair_r3 (K : PySem.W.Frag) (s__law_chart : Sp) (s_chart_of : Sp) (s__law_first : Sp) (s_first_road : Sp) (s__law_way : Sp) (s_way : Sp) (s__law_leads : Sp) (s_is_way : Sp) (s_minutes_of : Sp) (s__law_verdict : Sp) (s__law_told : Sp) : TS :=
  tSeq (tIfS (tTest (tOp (uEq K false) (tVar 4) (tC (.int 3)))) (tRet (tTupU (tCons (tGo s_is_way E0 (tCons (tVar 0) (tCons (tVar 1) (tCons (tVar 7) (tCons (tVar 8) (tCons (tVar 5) (tNil))))))) (tCons (tOrT K (tOp (uEq K false) (tVar 5) (tVar 9)) (tGo s__law_leads E0 (tCons (tVar 0) (tCons (tVar 1) (tCons (tVar 2) (tCons (tVar 3) (tCons (tVar 5) (tNil)))))))) (tNil))))) (tNext)) (t__law_pair_r2 K s__law_chart s_chart_of s__law_first s_first_road s__law_way s_way s__law_leads s_is_way s_minutes_of s__law_verdict s__law_told)
def t__law_pair_r4 (K : PySem.W.Frag) (s__law_chart : Sp) (s_chart_of : Sp) (s__law_first : Sp) (s_first_road : Sp) (s__law_way : Sp) (s_way : Sp) (s__law_leads : Sp) (s_is_way : Sp) (s_minutes_of : Sp) (s__law_verdict : Sp) (s__law_told : Sp) : TS :=
  tSeq (tAsg (tGo s__law_way E0 (tCons (tVar 0) (tCons (tVar 1) (tCons (tVar 6) (tCons (tVar 2) (tCons (tVar 3) (tNil))))))) (gName 9)) (tSeq (tIfS (tTest (tOp (uEq K false) (tVar 4) (tC (.int 2)))) (tRet (tTupU (tCons (tGo s_way E0 (tCons (tVar 0) (tCons (tVar 1) (tCons (tVar 7) (tCons (tVar 8) (tNil)))))) (tCons (tVar 9) (tNil))))) (tNext)) (t__law_pair_r3 K s__law_chart s_chart_of s__law_first s_first_road s__law_way s_way s__law_leads s_is_way s_minutes_of s__law_verdict s__law_told))
def t__law_pair_r5 (K : PySem.W.Frag) (s__law_chart : Sp) (s_chart_of : Sp) (s__law_first : Sp) (s_first_road : Sp) (s__law_way : Sp) (s_way : Sp) (s__law_leads : Sp) (s_is_way : Sp) (s_minutes_of : Sp) (s__law_verdict : Sp) (s__law_told : Sp) : TS :=
  tSeq (tIfS (tTest (tOp (uEq K false) (tVar 4) (tC (.int 1)))) (tRet (tTupU (tCons (tGo s_first_road E0 (tCons (tVar 0) (tCons (tVar 1) (tCons (tVar 6) (tCons (tVar 7) (tCons (tVar 8) (tNil))))))) (tCons (tGo s__law_first E0 (tCons (tVar 0) (tCons (tVar 1) (tCons (tVar 6) (tCons (tVar 2) (tCons (tVar 3) (tNil))))))) (tNil))))) (tNext)) (t__law_pair_r4 K s__law_chart s_chart_of s__law_first s_first_road s__law_way s_way s__law_leads s_is_way s_minutes_of s__law_verdict s__law_told)
def t__law_pair (K : PySem.W.Frag) (s__law_chart : Sp) (s_chart_of : Sp) (s__law_first : Sp) (s_first_road : Sp) (s__law_way : Sp) (s_way : Sp) (s__law_leads : Sp) (s_is_way : Sp) (s_minutes_of : Sp) (s__law_verdict : Sp) (s__law_told : Sp) : TS :=
  tSeq (tAsg (tGo s__law_chart E0 (tCons (tVar 0) (tCons (tVar 1) (tNil)))) (gName 6)) (tSeq (tAsg (tOp (uIx K) (tOp (uIx K) (tVar 0) (tC (.int 0))) (tVar 2)) (gName 7)) (tSeq (tAsg (tOp (uIx K) (tOp (uIx K) (tVar 0) (tC (.int 0))) (tVar 3)) (gName 8)) (tSeq (tIfS (tTest (tOp (uEq K false) (tVar 4) (tC (.int 0)))) (tRet (tTupU (tCons (tGo s_chart_of E0 (tCons (tVar 0) (tCons (tVar 1) (tNil)))) (tCons (tVar 6) (tNil))))) (tNext)) (t__law_pair_r5 K s__law_chart s_chart_of s__law_first s_first_road s__law_way s_way s__law_leads s_is_way s_minutes_of s__law_verdict s__law_told))))
theorem dv__law_pair {P : Program} {w : World} {K : PySem.W.Frag} {mg : Str → Option Value} {b : Heap} {a : Addr} {d : FuncData} {sp : Sp} (F : Fn K mg "_law_pair" s__law_pair_ a d ["town", "shut", "here", "goal", "asked", "thing"])
    {a__law_chart : Addr} {d__law_chart : FuncData} {s__law_chart : Sp} (F__law_chart : Fn K mg "_law_chart" s__law_chart_ a__law_chart d__law_chart ["town", "shut"]) (k__law_chart : Keeps P w K mg b CX0 3 a__law_chart d__law_chart ["town", "shut"] s__law_chart)
    {a_chart_of : Addr} {d_chart_of : FuncData} {s_chart_of : Sp} (F_chart_of : Fn K mg "chart_of" s_chart_of_ a_chart_of d_chart_of ["town", "shut"]) (k_chart_of : Keeps P w K mg b CX0 4 a_chart_of d_chart_of ["town", "shut"] s_chart_of)
    {a__law_first : Addr} {d__law_first : FuncData} {s__law_first : Sp} (F__law_first : Fn K mg "_law_first" s__law_first_ a__law_first d__law_first ["town", "shut", "chart", "here", "goal"]) (k__law_first : Keeps P w K mg b CX0 3 a__law_first d__law_first ["town", "shut", "chart", "here", "goal"] s__law_first)
    {a_first_road : Addr} {d_first_road : FuncData} {s_first_road : Sp} (F_first_road : Fn K mg "first_road" s_first_road_ a_first_road d_first_road ["town", "shut", "chart", "one", "other"]) (k_first_road : Keeps P w K mg b CX0 3 a_first_road d_first_road ["town", "shut", "chart", "one", "other"] s_first_road)
    {a__law_way : Addr} {d__law_way : FuncData} {s__law_way : Sp} (F__law_way : Fn K mg "_law_way" s__law_way_ a__law_way d__law_way ["town", "shut", "chart", "here", "goal"]) (k__law_way : Keeps P w K mg b CX0 4 a__law_way d__law_way ["town", "shut", "chart", "here", "goal"] s__law_way)
    {a_way : Addr} {d_way : FuncData} {s_way : Sp} (F_way : Fn K mg "way" s_way_ a_way d_way ["town", "shut", "one", "other"]) (k_way : Keeps P w K mg b CX0 5 a_way d_way ["town", "shut", "one", "other"] s_way)
    {a__law_leads : Addr} {d__law_leads : FuncData} {s__law_leads : Sp} (F__law_leads : Fn K mg "_law_leads" s__law_leads_ a__law_leads d__law_leads ["town", "shut", "here", "goal", "roads"]) (k__law_leads : Keeps P w K mg b CX0 3 a__law_leads d__law_leads ["town", "shut", "here", "goal", "roads"] s__law_leads)
    {a_is_way : Addr} {d_is_way : FuncData} {s_is_way : Sp} (F_is_way : Fn K mg "is_way" s_is_way_ a_is_way d_is_way ["town", "shut", "one", "other", "thing"]) (k_is_way : Keeps P w K mg b CX0 4 a_is_way d_is_way ["town", "shut", "one", "other", "thing"] s_is_way)
    (n_int : mg "int" = none)
    {a_minutes_of : Addr} {d_minutes_of : FuncData} {s_minutes_of : Sp} (F_minutes_of : Fn K mg "minutes_of" s_minutes_of_ a_minutes_of d_minutes_of ["town", "one", "roads"]) (k_minutes_of : Keeps P w K mg b CX0 3 a_minutes_of d_minutes_of ["town", "one", "roads"] s_minutes_of)
    {a__law_verdict : Addr} {d__law_verdict : FuncData} {s__law_verdict : Sp} (F__law_verdict : Fn K mg "_law_verdict" s__law_verdict_ a__law_verdict d__law_verdict ["town", "shut", "thing"]) (k__law_verdict : Keeps P w K mg b CX0 3 a__law_verdict d__law_verdict ["town", "shut", "thing"] s__law_verdict)
    {a__law_told : Addr} {d__law_told : FuncData} {s__law_told : Sp} (F__law_told : Fn K mg "_law_told" s__law_told_ a__law_told d__law_told ["town", "shut", "thing"]) (k__law_told : Keeps P w K mg b CX0 9 a__law_told d__law_told ["town", "shut", "thing"] s__law_told)
    (len : ∀ vs H Q E, sp vs H Q E → vs.length = 6)
    (rd : ∀ vs H Q E, sp vs H Q E → run (t__law_pair K s__law_chart s_chart_of s__law_first s_first_road s__law_way s_way s__law_leads s_is_way s_minutes_of s__law_verdict s__law_told) (start N__law_pair vs) H Q) : Keeps P w K mg b CX0 10 a d ["town", "shut", "here", "goal", "asked", "thing"] sp := by
  refine keeps0 F.fn sc__law_pair len fun cdv A o s H vs Q E hr h => ⟨t__law_pair K s__law_chart s_chart_of s__law_first s_first_road s__law_way s_way s__law_leads s_is_way s_minutes_of s__law_verdict s__law_told, ?_, rd vs H Q E h⟩
  unfold t__law_pair t__law_pair_r5 t__law_pair_r4 t__law_pair_r3 t__law_pair_r2 t__law_pair_r1
  exact (pss_cons (ps_set (i := 6) sc__law_pair.nd rfl (.inl rfl) (pe_go k__law_chart (hr.mono (by decide)) rfl F__law_chart.g F__law_chart.fn.kp F__law_chart.b pass0 (pa_cons (pv 0) (pa_cons (pv 1) pa_nil))))
  (pss_cons (ps_set (i := 7) sc__law_pair.nd rfl (.inl rfl) (pe_ix ix_u (pe_ix ix_u (pv 0) pe_int (fun _ _ => rfl)) (pv 2) (fun _ _ => rfl)))
  (pss_cons (ps_set (i := 8) sc__law_pair.nd rfl (.inl rfl) (pe_ix ix_u (pe_ix ix_u (pv 0) pe_int (fun _ _ => rfl)) (pv 3) (fun _ _ => rfl)))
  (pss_cons (ps_if (pt_cmpR (op_uEq hr.rm.units) (pv 4) pe_int (nomark _)) (pss_one (ps_ret (pe_tupU (pa_cons (pe_go k_chart_of (hr.mono (by decide)) rfl F_chart_of.g F_chart_of.fn.kp F_chart_of.b pass0 (pa_cons (pv 0) (pa_cons (pv 1) pa_nil))) (pa_cons (pv 6) pa_nil))))) pss_nil)
  (pss_cons (ps_if (pt_cmpR (op_uEq hr.rm.units) (pv 4) pe_int (nomark _)) (pss_one (ps_ret (pe_tupU (pa_cons (pe_go k_first_road (hr.mono (by decide)) rfl F_first_road.g F_first_road.fn.kp F_first_road.b pass0 (pa_cons (pv 0) (pa_cons (pv 1) (pa_cons (pv 6) (pa_cons (pv 7) (pa_cons (pv 8) pa_nil)))))) (pa_cons (pe_go k__law_first (hr.mono (by decide)) rfl F__law_first.g F__law_first.fn.kp F__law_first.b pass0 (pa_cons (pv 0) (pa_cons (pv 1) (pa_cons (pv 6) (pa_cons (pv 2) (pa_cons (pv 3) pa_nil)))))) pa_nil))))) pss_nil)
  (pss_cons (ps_set (i := 9) sc__law_pair.nd rfl (.inl rfl) (pe_go k__law_way (hr.mono (by decide)) rfl F__law_way.g F__law_way.fn.kp F__law_way.b pass0 (pa_cons (pv 0) (pa_cons (pv 1) (pa_cons (pv 6) (pa_cons (pv 2) (pa_cons (pv 3) pa_nil)))))))
  (pss_cons (ps_if (pt_cmpR (op_uEq hr.rm.units) (pv 4) pe_int (nomark _)) (pss_one (ps_ret (pe_tupU (pa_cons (pe_go k_way (hr.mono (by decide)) rfl F_way.g F_way.fn.kp F_way.b pass0 (pa_cons (pv 0) (pa_cons (pv 1) (pa_cons (pv 7) (pa_cons (pv 8) pa_nil))))) (pa_cons (pv 9) pa_nil))))) pss_nil)
  (pss_cons (ps_if (pt_cmpR (op_uEq hr.rm.units) (pv 4) pe_int (nomark _)) (pss_one (ps_ret (pe_tupU (pa_cons (pe_go k_is_way (hr.mono (by decide)) rfl F_is_way.g F_is_way.fn.kp F_is_way.b pass0 (pa_cons (pv 0) (pa_cons (pv 1) (pa_cons (pv 7) (pa_cons (pv 8) (pa_cons (pv 5) pa_nil)))))) (pa_cons (pe_orT (pe_cmpR (op_uEq hr.rm.units) (pv 5) (pv 9) (nomark _)) (pe_one (pe_go k__law_leads (hr.mono (by decide)) rfl F__law_leads.g F__law_leads.fn.kp F__law_leads.b pass0 (pa_cons (pv 0) (pa_cons (pv 1) (pa_cons (pv 2) (pa_cons (pv 3) (pa_cons (pv 5) pa_nil)))))))) pa_nil))))) pss_nil)
  (pss_cons (ps_if (pt_cmpR (op_uEq hr.rm.units) (pv 4) pe_int (nomark _)) (pss_one (ps_ret (pe_tupU (pa_cons (pe_go k_minutes_of (hr.mono (by decide)) rfl F_minutes_of.g F_minutes_of.fn.kp F_minutes_of.b pass0 (pa_cons (pv 0) (pa_cons (pv 7) (pa_cons (pe_orT (pv 9) (pe_one (pe_tupU pa_nil))) pa_nil)))) (pa_cons (pe_ix ix_u (pe_lstU (pa_cons (pe_ix ix_u (pe_ix ix_u (pv 6) (pv 3) (fun _ _ => rfl)) (pv 2) (fun _ _ => rfl)) (pa_cons pe_int pa_nil))) (pe_callTy call_uInt (by rfl) n_int (by decide +kernel) (pa_cons (pe_cmpR op_isN (pv 9) pe_non (nomark _)) pa_nil)) (fun _ _ => rfl)) pa_nil))))) pss_nil)
  (pss_one (ps_ret (pe_tupU (pa_cons (pe_go k__law_told (hr.mono (by decide)) rfl F__law_told.g F__law_told.fn.kp F__law_told.b pass0 (pa_cons (pv 0) (pa_cons (pv 1) (pa_cons (pv 5) pa_nil)))) (pa_cons (pe_go k__law_verdict (hr.mono (by decide)) rfl F__law_verdict.g F__law_verdict.fn.kp F__law_verdict.b pass0 (pa_cons (pv 0) (pa_cons (pv 1) (pa_cons (pv 5) pa_nil)))) pa_nil))))))))))))))

abbrev s__law_lined_ : Stmt := topS 49
abbrev N__law_lined : List Str := ["script", "town", "row", "names", "roads", "k", "some", "ends", "there"]
theorem sc__law_lined : FnScope N__law_lined ["script"] (defScope s__law_lined_) := ⟨rfl, rfl, rfl, by decide +kernel, rfl, by decide +kernel, by decide +kernel⟩
def t__law_lined_b1 (K : PySem.W.Frag) (s__law_town : Sp) (s__law_row : Sp) (s__law_cell_at : Sp) (s__law_names : Sp) : TS :=
  tSeq (tAsg (tGo s__law_row E0 (tCons (tGo s__law_cell_at E0 (tCons (tVar 0) (tCons (tOp (uAdd K) (tC (.int 1)) (tVar 5)) (tNil)))) (tCons (tC (.int 6)) (tNil)))) (gName 6)) (tSeq (tAsg (tStepL K (tSl (uSl K) (tVar 3) (tPart (tVar 5)) (tPart (tOp (uAdd K) (tVar 5) (tC (.int 2))))) (tOp (uIx K) (tLstU (tCons (tC (.int 1)) (tCons (tUn (rU fun i => .int (-i)) (tC (.int 1))) (tNil)))) (tOp (rI (fun _ j => 0 < j) fun i j => .int (i % j)) (tOp (rI CDiv fun i j => .int (i / j)) (tOp (uIx K) (tVar 2) (tC (.int 18))) (tC (.int 6))) (tC (.int 2))))) (gName 7)) (tSeq (tAsg (tOp (uIx K) (tLstU (tCons (tOp (uAdd K) (tC (.int 1)) (tOp (rI (fun _ j => 0 < j) fun i j => .int (i % j)) (tOp (uIx K) (tVar 6) (tC (.int 2))) (tC (.int 60)))) (tCons (tOp (uAdd K) (tC (.int 40)) (tOp (rI (fun _ j => 0 < j) fun i j => .int (i % j)) (tOp (uIx K) (tVar 6) (tC (.int 2))) (tC (.int 21)))) (tNil)))) (tOp (rI (fun _ j => 0 < j) fun i j => .int (i % j)) (tOp (rI CDiv fun i j => .int (i / j)) (tOp (uIx K) (tVar 2) (tC (.int 18))) (tC (.int 24))) (tC (.int 2)))) (gName 8)) (tDrop (tBM K "list" uAppend (tVar 4) (tCons (tTupU (tCons (tOp (uIx K) (tVar 7) (tC (.int 0))) (tCons (tOp (uIx K) (tVar 7) (tC (.int 1))) (tCons (tVar 8) (tCons (tOp (uIx K) (tLstU (tCons (tOp (uAdd K) (tC (.int 1)) (tOp (rI (fun _ j => 0 < j) fun i j => .int (i % j)) (tOp (uIx K) (tVar 6) (tC (.int 3))) (tC (.int 60)))) (tCons (tC .non) (tNil)))) (tCB (uInt) (tCons (tOp (uEq K false) (tOp (rI (fun _ j => 0 < j) fun i j => .int (i % j)) (tOp (uIx K) (tVar 6) (tC (.int 5))) (tC (.int 3))) (tC (.int 1))) (tNil)))) (tNil)))))) (tNil))))))
def t__law_lined_r1 (K : PySem.W.Frag) (s__law_town : Sp) (s__law_row : Sp) (s__law_cell_at : Sp) (s__law_names : Sp) : TS :=
  tSeq (tAsg (tStepL K (tVar 4) (tOp (uIx K) (tLstU (tCons (tC (.int 1)) (tCons (tUn (rU fun i => .int (-i)) (tC (.int 1))) (tNil)))) (tOp (rI (fun _ j => 0 < j) fun i j => .int (i % j)) (tOp (rI CDiv fun i j => .int (i / j)) (tOp (uIx K) (tVar 2) (tC (.int 18))) (tC (.int 12))) (tC (.int 2))))) (gName 4)) (tRet (tTupU (tCons (tCB (uTuple K) (tCons (tVar 3) (tNil))) (tCons (tCB (uTuple K) (tCons (tVar 4) (tNil))) (tCons (tCB (uTuple K) (tCons (tSl (uSl K) (tVar 3) (tNoPart) (tPart (tOp (uAdd K) (tC (.int 1)) (tOp (rI (fun _ j => 0 < j) fun i j => .int (i % j)) (tOp (uIx K) (tVar 2) (tC (.int 13))) (tC (.int 5)))))) (tNil))) (tCons (tOp (uIx K) (tVar 1) (tC (.int 3))) (tNil)))))))
def t__law_lined_r2 (K : PySem.W.Frag) (s__law_town : Sp) (s__law_row : Sp) (s__law_cell_at : Sp) (s__law_names : Sp) : TS :=
  tSeq (tAsg (tGo s__law_names E0 (tCons (tVar 2) (tCons (tC (.int 10)) (tNil)))) (gName 3)) (tSeq (tAsg (tLstU (tNil)) (gName 4)) (tSeq (tFor (iRng1 (tCons (tC (.int 9)) (tNil))) (gName 5) (t__law_lined_b1 K s__law_town s__law_row s__law_cell_at s__law_names)) (t__law_lined_r1 K s__law_town s__law_row s__law_cell_at s__law_names)))
def t__law_lined (K : PySem.W.Frag) (s__law_town : Sp) (s__law_row : Sp) (s__law_cell_at : Sp) (s__law_names : Sp) : TS :=
  tSeq (tAsg (tGo s__law_town E0 (tCons (tVar 0) (tCons (tC (.int 0)) (tNil)))) (gName 1)) (tSeq (tAsg (tGo s__law_row E0 (tCons (tGo s__law_cell_at E0 (tCons (tVar 0) (tCons (tC (.int 0)) (tNil)))) (tCons (tC (.int 20)) (tNil)))) (gName 2)) (tSeq (tIfS (tTest (tOp (uEq K true) (tOp (rI (fun _ j => 0 < j) fun i j => .int (i % j)) (tOp (uIx K) (tVar 2) (tC (.int 18))) (tC (.int 6))) (tC (.int 1)))) (tRet (tVar 1)) (tNext)) (t__law_lined_r2 K s__law_town s__law_row s__law_cell_at s__law_names)))
theorem dv__law_lined {P : Program} {w : World} {K : PySem.W.Frag} {mg : Str → Option Value} {b : Heap} {a : Addr} {d : FuncData} {sp : Sp} (F : Fn K mg "_law_lined" s__law_lined_ a d ["script"])
    {a__law_town : Addr} {d__law_town : FuncData} {s__law_town : Sp} (F__law_town : Fn K mg "_law_town" s__law_town_ a__law_town d__law_town ["script", "start"]) (k__law_town : Keeps P w K mg b CX0 3 a__law_town d__law_town ["script", "start"] s__law_town)
    {a__law_row : Addr} {d__law_row : FuncData} {s__law_row : Sp} (F__law_row : Fn K mg "_law_row" s__law_row_ a__law_row d__law_row ["cell", "many"]) (k__law_row : Keeps P w K mg b CX0 2 a__law_row d__law_row ["cell", "many"] s__law_row)
    {a__law_cell_at : Addr} {d__law_cell_at : FuncData} {s__law_cell_at : Sp} (F__law_cell_at : Fn K mg "_law_cell_at" s__law_cell_at_ a__law_cell_at d__law_cell_at ["script", "k"]) (k__law_cell_at : Keeps P w K mg b CX0 2 a__law_cell_at d__law_cell_at ["script", "k"] s__law_cell_at)
    {a__law_names : Addr} {d__law_names : FuncData} {s__law_names : Sp} (F__law_names : Fn K mg "_law_names" s__law_names_ a__law_names d__law_names ["row", "many"]) (k__law_names : Keeps P w K mg b CX0 2 a__law_names d__law_names ["row", "many"] s__law_names)
    (n_range : mg "range" = none)
    (n_int : mg "int" = none)
    (n_tuple : mg "tuple" = none)
    (len : ∀ vs H Q E, sp vs H Q E → vs.length = 1)
    (rd : ∀ vs H Q E, sp vs H Q E → run (t__law_lined K s__law_town s__law_row s__law_cell_at s__law_names) (start N__law_lined vs) H Q) : Keeps P w K mg b CX0 4 a d ["script"] sp := by
  refine keeps0 F.fn sc__law_lined len fun cdv A o s H vs Q E hr h => ⟨t__law_lined K s__law_town s__law_row s__law_cell_at s__law_names, ?_, rd vs H Q E h⟩
  unfold t__law_lined t__law_lined_r2 t__law_lined_r1 t__law_lined_b1
  exact (pss_cons (ps_set (i := 1) sc__law_lined.nd rfl (.inl rfl) (pe_go k__law_town (hr.mono (by decide)) rfl F__law_town.g F__law_town.fn.kp F__law_town.b pass0 (pa_cons (pv 0) (pa_cons pe_int pa_nil))))
  (pss_cons (ps_set (i := 2) sc__law_lined.nd rfl (.inl rfl) (pe_go k__law_row (hr.mono (by decide)) rfl F__law_row.g F__law_row.fn.kp F__law_row.b pass0 (pa_cons (pe_go k__law_cell_at (hr.mono (by decide)) rfl F__law_cell_at.g F__law_cell_at.fn.kp F__law_cell_at.b pass0 (pa_cons (pv 0) (pa_cons pe_int pa_nil))) (pa_cons pe_int pa_nil))))
  (pss_cons (ps_if (pt_cmpR (op_uNe hr.rm.units) (pe_op op_mod (pe_ix ix_u (pv 2) pe_int (fun _ _ => rfl)) pe_int) pe_int (nomark _)) (pss_one (ps_ret (pv 1))) pss_nil)
  (pss_cons (ps_set (i := 3) sc__law_lined.nd rfl (.inl rfl) (pe_go k__law_names (hr.mono (by decide)) rfl F__law_names.g F__law_names.fn.kp F__law_names.b pass0 (pa_cons (pv 2) (pa_cons pe_int pa_nil))))
  (pss_cons (ps_set (i := 4) sc__law_lined.nd rfl (.inl rfl) (pe_lstU pa_nil))
  (pss_cons (ps_for PassesOwn.never rfl (pi_range1 (by rfl) n_range (pa_cons pe_int pa_nil)) (pg_name (i := 5) sc__law_lined.nd rfl (.inl rfl)) (pss_cons (ps_set (i := 6) sc__law_lined.nd rfl (.inl rfl) (pe_go k__law_row (hr.mono (by decide)) rfl F__law_row.g F__law_row.fn.kp F__law_row.b pass0 (pa_cons (pe_go k__law_cell_at (hr.mono (by decide)) rfl F__law_cell_at.g F__law_cell_at.fn.kp F__law_cell_at.b pass0 (pa_cons (pv 0) (pa_cons (pe_op op_uAdd pe_int (pv 5)) pa_nil))) (pa_cons pe_int pa_nil))))
  (pss_cons (ps_set (i := 7) sc__law_lined.nd rfl (.inl rfl) (pe_stepL (pe_slice sl_u (pv 3) (po_some (pv 5)) (po_some (pe_op op_uAdd (pv 5) pe_int))) (pe_ix ix_u (pe_lstU (pa_cons pe_int (pa_cons (pe_un un_neg pe_int) pa_nil))) (pe_op op_mod (pe_op op_fdiv (pe_ix ix_u (pv 2) pe_int (fun _ _ => rfl)) pe_int) pe_int) (fun _ _ => rfl))))
  (pss_cons (ps_set (i := 8) sc__law_lined.nd rfl (.inl rfl) (pe_ix ix_u (pe_lstU (pa_cons (pe_op op_uAdd pe_int (pe_op op_mod (pe_ix ix_u (pv 6) pe_int (fun _ _ => rfl)) pe_int)) (pa_cons (pe_op op_uAdd pe_int (pe_op op_mod (pe_ix ix_u (pv 6) pe_int (fun _ _ => rfl)) pe_int)) pa_nil))) (pe_op op_mod (pe_op op_fdiv (pe_ix ix_u (pv 2) pe_int (fun _ _ => rfl)) pe_int) pe_int) (fun _ _ => rfl)))
  (pss_one (ps_expr (pe_bm PySem.F.plainAttrs_list PySem.F.slot_list_append PySem.F.type_list_append mt_uAppend (pv 4) (pa_cons (pe_tupU (pa_cons (pe_ix ix_u (pv 7) pe_int (fun _ _ => rfl)) (pa_cons (pe_ix ix_u (pv 7) pe_int (fun _ _ => rfl)) (pa_cons (pv 8) (pa_cons (pe_ix ix_u (pe_lstU (pa_cons (pe_op op_uAdd pe_int (pe_op op_mod (pe_ix ix_u (pv 6) pe_int (fun _ _ => rfl)) pe_int)) (pa_cons pe_non pa_nil))) (pe_callTy call_uInt (by rfl) n_int (by decide +kernel) (pa_cons (pe_cmpR (op_uEq hr.rm.units) (pe_op op_mod (pe_ix ix_u (pv 6) pe_int (fun _ _ => rfl)) pe_int) pe_int (nomark _)) pa_nil)) (fun _ _ => rfl)) pa_nil))))) pa_nil))))))))
  (pss_cons (ps_set (i := 4) sc__law_lined.nd rfl (.inl rfl) (pe_stepL (pv 4) (pe_ix ix_u (pe_lstU (pa_cons pe_int (pa_cons (pe_un un_neg pe_int) pa_nil))) (pe_op op_mod (pe_op op_fdiv (pe_ix ix_u (pv 2) pe_int (fun _ _ => rfl)) pe_int) pe_int) (fun _ _ => rfl))))
  (pss_one (ps_ret (pe_tupU (pa_cons (pe_callTy call_uTuple (by rfl) n_tuple (by decide +kernel) (pa_cons (pv 3) pa_nil)) (pa_cons (pe_callTy call_uTuple (by rfl) n_tuple (by decide +kernel) (pa_cons (pv 4) pa_nil)) (pa_cons (pe_callTy call_uTuple (by rfl) n_tuple (by decide +kernel) (pa_cons (pe_slice sl_u (pv 3) po_none (po_some (pe_op op_uAdd pe_int (pe_op op_mod (pe_ix ix_u (pv 2) pe_int (fun _ _ => rfl)) pe_int)))) pa_nil)) (pa_cons (pe_ix ix_u (pv 1) pe_int (fun _ _ => rfl)) pa_nil))))))))))))))

abbrev s_law_ : Stmt := topS 50
abbrev N_law : List Str := ["script", "town", "row", "towns", "sets", "places", "told", "cell", "some", "at", "one", "shut", "turn", "thing", "begin", "end", "found", "due", "k"]
theorem sc_law : FnScope N_law ["script"] (defScope s_law_) := ⟨rfl, rfl, rfl, by decide +kernel, rfl, by decide +kernel, by decide +kernel⟩
def t_law_r1 (K : PySem.W.Frag) (s__law_lined : Sp) (s__law_row : Sp) (s__law_cell_at : Sp) (s__law_twin : Sp) (s__law_shut : Sp) (s__law_chart : Sp) (s__law_way : Sp) (s__law_pair : Sp) : TS :=
  tSeq (tDrop (tBM K "list" uAppend (tVar 6) (tCons (tTupU (tCons (tVar 16) (tCons (tVar 17) (tNil)))) (tNil)))) (tAsg (tOp (rI0 fun i j => .int (i - j)) (tC (.int 1)) (tOp (uIx K) (tVar 9) (tOp (rI (fun _ j => 0 < j) fun i j => .int (i % j)) (tVar 12) (tC (.int 4))))) (gSub (tVar 9) (tOp (rI (fun _ j => 0 < j) fun i j => .int (i % j)) (tVar 12) (tC (.int 4))) uSetL))
def t_law_r2 (K : PySem.W.Frag) (s__law_lined : Sp) (s__law_row : Sp) (s__law_cell_at : Sp) (s__law_twin : Sp) (s__law_shut : Sp) (s__law_chart : Sp) (s__law_way : Sp) (s__law_pair : Sp) : TS :=
  tSeq (tAsg (tGo s__law_pair E0 (tCons (tOp (uIx K) (tVar 3) (tOp (uIx K) (tVar 9) (tC (.int 0)))) (tCons (tOp (uIx K) (tVar 4) (tOp (uIx K) (tVar 9) (tC (.int 1)))) (tCons (tOp (uIx K) (tVar 5) (tOp (uIx K) (tVar 9) (tC (.int 2)))) (tCons (tOp (uIx K) (tVar 5) (tOp (uAdd K) (tC (.int 2)) (tOp (uIx K) (tVar 9) (tC (.int 3))))) (tCons (tOp (rI (fun _ j => 0 < j) fun i j => .int (i % j)) (tOp (uIx K) (tVar 8) (tC (.int 4))) (tC (.int 6))) (tCons (tVar 13) (tNil)))))))) (gTup K 2 (gCons (gName 16) (gCons (gName 17) (gNil))))) (tSeq (tIfS (tOr (tTest (tOp (uEq K true) (tVar 16) (tVar 17))) (tTest (tOp (uEq K true) (tCB (rIsi K) (tCons (tVar 16) (tCons (tC (.ty "bool")) (tNil)))) (tCB (rIsi K) (tCons (tVar 17) (tCons (tC (.ty "bool")) (tNil))))))) (tRet (tC (.bl false))) (tNext)) (t_law_r1 K s__law_lined s__law_row s__law_cell_at s__law_twin s__law_shut s__law_chart s__law_way s__law_pair))
def t_law_b1 (K : PySem.W.Frag) (s__law_lined : Sp) (s__law_row : Sp) (s__law_cell_at : Sp) (s__law_twin : Sp) (s__law_shut : Sp) (s__law_chart : Sp) (s__law_way : Sp) (s__law_pair : Sp) : TS :=
  tSeq (tAsg (tGo s__law_chart E0 (tCons (tVar 10) (tCons (tVar 11) (tNil)))) (gName 13)) (tSeq (tIfS (tTest (tOp (uEq K false) (tOp (rI (fun _ j => 0 < j) fun i j => .int (i % j)) (tOp (uIx K) (tVar 8) (tC (.int 4))) (tC (.int 6))) (tC (.int 3)))) (tSeq (tPar 14 15 (tCons (tOp (uIx K) (tVar 5) (tOp (uIx K) (tVar 9) (tC (.int 2)))) (tCons (tOp (uIx K) (tVar 5) (tOp (uAdd K) (tC (.int 2)) (tOp (uIx K) (tVar 9) (tC (.int 3))))) (tNil)))) (tSeq (tAsg (tGo s__law_way E0 (tCons (tVar 10) (tCons (tVar 11) (tCons (tVar 13) (tCons (tVar 14) (tCons (tVar 15) (tNil))))))) (gName 13)) (tIfS (tTest (tOp rIsN (tVar 13) (tC .non))) (tAsg (tTupU (tNil)) (gName 13)) (tNext)))) (tNext)) (t_law_r2 K s__law_lined s__law_row s__law_cell_at s__law_twin s__law_shut s__law_chart s__law_way s__law_pair))
def t_law_b2 (K : PySem.W.Frag) (s__law_lined : Sp) (s__law_row : Sp) (s__law_cell_at : Sp) (s__law_twin : Sp) (s__law_shut : Sp) (s__law_chart : Sp) (s__law_way : Sp) (s__law_pair : Sp) : TS :=
  tSeq (tAsg (tGo s__law_row E0 (tCons (tVar 7) (tCons (tC (.int 7)) (tNil)))) (gName 8)) (tSeq (tAsg (tLc (iRng1 (tCons (tC (.int 4)) (tNil))) (gName 18) (tYes) (tOp (rI (fun _ j => 0 < j) fun i j => .int (i % j)) (tOp (uIx K) (tVar 8) (tVar 18)) (tC (.int 2))) [18]) (gName 9)) (tSeq (tAsg (tOp (uIx K) (tVar 3) (tOp (rI (fun _ j => 0 < j) fun i j => .int (i % j)) (tOp (uIx K) (tVar 8) (tC (.int 5))) (tC (.int 2)))) (gName 10)) (tSeq (tAsg (tOp (uIx K) (tVar 4) (tOp (rI (fun _ j => 0 < j) fun i j => .int (i % j)) (tOp (uIx K) (tVar 8) (tC (.int 6))) (tC (.int 2)))) (gName 11)) (tFor (iRng1 (tCons (tC (.int 6)) (tNil))) (gName 12) (t_law_b1 K s__law_lined s__law_row s__law_cell_at s__law_twin s__law_shut s__law_chart s__law_way s__law_pair)))))
def t_law_r3 (K : PySem.W.Frag) (s__law_lined : Sp) (s__law_row : Sp) (s__law_cell_at : Sp) (s__law_twin : Sp) (s__law_shut : Sp) (s__law_chart : Sp) (s__law_way : Sp) (s__law_pair : Sp) : TS :=
  tRet (tCB (rAll K) (tCons (tLc (iU K (tVar 6)) (gTup K 2 (gCons (gName 16) (gCons (gName 17) (gNil)))) (tYes) (tOp (uEq K false) (tVar 16) (tVar 17)) [16, 17]) (tNil)))
def t_law_r4 (K : PySem.W.Frag) (s__law_lined : Sp) (s__law_row : Sp) (s__law_cell_at : Sp) (s__law_twin : Sp) (s__law_shut : Sp) (s__law_chart : Sp) (s__law_way : Sp) (s__law_pair : Sp) : TS :=
  tSeq (tAsg (tLc (iRng1 (tCons (tC (.int 4)) (tNil))) (gName 18) (tYes) (tOp (rI (fun _ j => 0 < j) fun i j => .int (i % j)) (tOp (uIx K) (tVar 2) (tVar 18)) (tCB (uLen K) (tCons (tOp (uIx K) (tVar 1) (tC (.int 0))) (tNil)))) [18]) (gName 5)) (tSeq (tAsg (tLstU (tNil)) (gName 6)) (tSeq (tFor (iU K (tOp (uAdd K) (tLstU (tCons (tC (.int 0)) (tCons (tC (.int 1)) (tNil)))) (tSl (uSl K) (tVar 0) (tPart (tC (.int 22))) (tPart (tC (.int 52)))))) (gName 7) (t_law_b2 K s__law_lined s__law_row s__law_cell_at s__law_twin s__law_shut s__law_chart s__law_way s__law_pair)) (t_law_r3 K s__law_lined s__law_row s__law_cell_at s__law_twin s__law_shut s__law_chart s__law_way s__law_pair)))
def t_law (K : PySem.W.Frag) (s__law_lined : Sp) (s__law_row : Sp) (s__law_cell_at : Sp) (s__law_twin : Sp) (s__law_shut : Sp) (s__law_chart : Sp) (s__law_way : Sp) (s__law_pair : Sp) : TS :=
  tSeq (tAsg (tGo s__law_lined E0 (tCons (tVar 0) (tNil))) (gName 1)) (tSeq (tAsg (tGo s__law_row E0 (tCons (tGo s__law_cell_at E0 (tCons (tVar 0) (tCons (tC (.int 21)) (tNil)))) (tCons (tC (.int 8)) (tNil)))) (gName 2)) (tSeq (tAsg (tLstU (tCons (tVar 1) (tCons (tGo s__law_twin E0 (tCons (tVar 1) (tCons (tSl (uSl K) (tVar 2) (tPart (tC (.int 4))) (tNoPart)) (tNil)))) (tNil)))) (gName 3)) (tSeq (tAsg (tLc (iRng1 (tCons (tC (.int 2)) (tNil))) (gName 18) (tYes) (tGo s__law_shut E0 (tCons (tGo s__law_cell_at E0 (tCons (tVar 0) (tCons (tOp (uAdd K) (tC (.int 19)) (tVar 18)) (tNil)))) (tCons (tVar 1) (tNil)))) [18]) (gName 4)) (tSeq (tIfS (tTest (tOp (uEq K false) (tCB (uLen K) (tCons (tOp (uIx K) (tVar 1) (tC (.int 1))) (tNil))) (tC (.int 9)))) (tAsg (tTupU (tNil)) (gSub (tVar 4) (tC (.int 1)) uSetL)) (tNext)) (t_law_r4 K s__law_lined s__law_row s__law_cell_at s__law_twin s__law_shut s__law_chart s__law_way s__law_pair)))))
theorem dv_law {P : Program} {w : World} {K : PySem.W.Frag} {mg : Str → Option Value} {b : Heap} {a : Addr} {d : FuncData} {sp : Sp} (F : Fn K mg "law" s_law_ a d ["script"])
    {a__law_lined : Addr} {d__law_lined : FuncData} {s__law_lined : Sp} (F__law_lined : Fn K mg "_law_lined" s__law_lined_ a__law_lined d__law_lined ["script"]) (k__law_lined : Keeps P w K mg b CX0 4 a__law_lined d__law_lined ["script"] s__law_lined)
    {a__law_row : Addr} {d__law_row : FuncData} {s__law_row : Sp} (F__law_row : Fn K mg "_law_row" s__law_row_ a__law_row d__law_row ["cell", "many"]) (k__law_row : Keeps P w K mg b CX0 2 a__law_row d__law_row ["cell", "many"] s__law_row)
    {a__law_cell_at : Addr} {d__law_cell_at : FuncData} {s__law_cell_at : Sp} (F__law_cell_at : Fn K mg "_law_cell_at" s__law_cell_at_ a__law_cell_at d__law_cell_at ["script", "k"]) (k__law_cell_at : Keeps P w K mg b CX0 2 a__law_cell_at d__law_cell_at ["script", "k"] s__law_cell_at)
    {a__law_twin : Addr} {d__law_twin : FuncData} {s__law_twin : Sp} (F__law_twin : Fn K mg "_law_twin" s__law_twin_ a__law_twin d__law_twin ["town", "row"]) (k__law_twin : Keeps P w K mg b CX0 2 a__law_twin d__law_twin ["town", "row"] s__law_twin)
    (n_range : mg "range" = none)
    {a__law_shut : Addr} {d__law_shut : FuncData} {s__law_shut : Sp} (F__law_shut : Fn K mg "_law_shut" s__law_shut_ a__law_shut d__law_shut ["cell", "town"]) (k__law_shut : Keeps P w K mg b CX0 3 a__law_shut d__law_shut ["cell", "town"] s__law_shut)
    (n_len : mg "len" = none)
    {a__law_chart : Addr} {d__law_chart : FuncData} {s__law_chart : Sp} (F__law_chart : Fn K mg "_law_chart" s__law_chart_ a__law_chart d__law_chart ["town", "shut"]) (k__law_chart : Keeps P w K mg b CX0 3 a__law_chart d__law_chart ["town", "shut"] s__law_chart)
    {a__law_way : Addr} {d__law_way : FuncData} {s__law_way : Sp} (F__law_way : Fn K mg "_law_way" s__law_way_ a__law_way d__law_way ["town", "shut", "chart", "here", "goal"]) (k__law_way : Keeps P w K mg b CX0 4 a__law_way d__law_way ["town", "shut", "chart", "here", "goal"] s__law_way)
    {a__law_pair : Addr} {d__law_pair : FuncData} {s__law_pair : Sp} (F__law_pair : Fn K mg "_law_pair" s__law_pair_ a__law_pair d__law_pair ["town", "shut", "here", "goal", "asked", "thing"]) (k__law_pair : Keeps P w K mg b CX0 10 a__law_pair d__law_pair ["town", "shut", "here", "goal", "asked", "thing"] s__law_pair)
    (n_isinstance : mg "isinstance" = none)
    (n_bool : mg "bool" = none)
    (n_all : mg "all" = none)
    (len : ∀ vs H Q E, sp vs H Q E → vs.length = 1)
    (rd : ∀ vs H Q E, sp vs H Q E → run (t_law K s__law_lined s__law_row s__law_cell_at s__law_twin s__law_shut s__law_chart s__law_way s__law_pair) (start N_law vs) H Q) : Keeps P w K mg b CX0 11 a d ["script"] sp := by
  refine keeps0 F.fn sc_law len fun cdv A o s H vs Q E hr h => ⟨t_law K s__law_lined s__law_row s__law_cell_at s__law_twin s__law_shut s__law_chart s__law_way s__law_pair, ?_, rd vs H Q E h⟩
  unfold t_law t_law_r4 t_law_r3 t_law_b2 t_law_b1 t_law_r2 t_law_r1
  exact (pss_cons (ps_set (i := 1) sc_law.nd rfl (.inr rfl) (pe_go k__law_lined (hr.mono (by decide)) rfl F__law_lined.g F__law_lined.fn.kp F__law_lined.b pass0 (pa_cons (pv 0) pa_nil)))
  (pss_cons (ps_set (i := 2) sc_law.nd rfl (.inr rfl) (pe_go k__law_row (hr.mono (by decide)) rfl F__law_row.g F__law_row.fn.kp F__law_row.b pass0 (pa_cons (pe_go k__law_cell_at (hr.mono (by decide)) rfl F__law_cell_at.g F__law_cell_at.fn.kp F__law_cell_at.b pass0 (pa_cons (pv 0) (pa_cons pe_int pa_nil))) (pa_cons pe_int pa_nil))))
  (pss_cons (ps_set (i := 3) sc_law.nd rfl (.inl rfl) (pe_lstU (pa_cons (pv 1) (pa_cons (pe_go k__law_twin (hr.mono (by decide)) rfl F__law_twin.g F__law_twin.fn.kp F__law_twin.b pass0 (pa_cons (pv 1) (pa_cons (pe_slice sl_u (pv 2) (po_some pe_int) po_none) pa_nil))) pa_nil))))
  (pss_cons (ps_setLc (i := 4) (own := [("k", 18)]) rfl sc_law.nd rfl rfl (sw_true rfl rfl rfl (by decide +kernel)) (pi_range1 (by rfl) n_range (pa_cons pe_int pa_nil)) (blkOk_by (own := [("k", 18)]) (N := N_law) (sc := defScope s_law_) (by decide +kernel)) (fun _ _ _ _ _ => (pg_name (i := 18) sc_law.nd rfl (.inl rfl))) (fun _ _ _ _ _ => pts_nil) (fun _ _ _ _ _ => (pe_go k__law_shut (hr.mono (by decide)) rfl F__law_shut.g F__law_shut.fn.kp F__law_shut.b pass0 (pa_cons (pe_go k__law_cell_at (hr.mono (by decide)) rfl F__law_cell_at.g F__law_cell_at.fn.kp F__law_cell_at.b pass0 (pa_cons (pv 0) (pa_cons (pe_op op_uAdd pe_int (pv 18)) pa_nil))) (pa_cons (pv 1) pa_nil)))))
  (pss_cons (ps_if (pt_cmpR (op_uEq hr.rm.units) (pe_callB call_uLen (by rfl) n_len (by decide +kernel) (pa_cons (pe_ix ix_u (pv 1) pe_int (fun _ _ => rfl)) pa_nil)) pe_int (nomark _)) (pss_one (ps_asg (pe_tupU pa_nil) (pg_sub (pv 4) pe_int set_u))) pss_nil)
  (pss_cons (ps_setLc (i := 5) (own := [("k", 18)]) rfl sc_law.nd rfl rfl (sw_true rfl rfl rfl (by decide +kernel)) (pi_range1 (by rfl) n_range (pa_cons pe_int pa_nil)) (blkOk_by (own := [("k", 18)]) (N := N_law) (sc := defScope s_law_) (by decide +kernel)) (fun _ _ _ _ _ => (pg_name (i := 18) sc_law.nd rfl (.inl rfl))) (fun _ _ _ _ _ => pts_nil) (fun _ _ _ _ _ => (pe_op op_mod (pe_ix ix_u (pv 2) (pv 18) (fun _ _ => rfl)) (pe_callB call_uLen (by rfl) n_len (by decide +kernel) (pa_cons (pe_ix ix_u (pv 1) pe_int (fun _ _ => rfl)) pa_nil)))))
  (pss_cons (ps_set (i := 6) sc_law.nd rfl (.inl rfl) (pe_lstU pa_nil))
  (pss_cons (ps_for PassesOwn.never rfl (pi_u (pe_op op_uAdd (pe_lstU (pa_cons pe_int (pa_cons pe_int pa_nil))) (pe_slice sl_u (pv 0) (po_some pe_int) (po_some pe_int)))) (pg_name (i := 7) sc_law.nd rfl (.inl rfl)) (pss_cons (ps_set (i := 8) sc_law.nd rfl (.inr rfl) (pe_go k__law_row (hr.mono (by decide)) rfl F__law_row.g F__law_row.fn.kp F__law_row.b pass0 (pa_cons (pv 7) (pa_cons pe_int pa_nil))))
  (pss_cons (ps_setLc (i := 9) (own := [("k", 18)]) rfl sc_law.nd rfl rfl (sw_true rfl rfl rfl (by decide +kernel)) (pi_range1 (by rfl) n_range (pa_cons pe_int pa_nil)) (blkOk_by (own := [("k", 18)]) (N := N_law) (sc := defScope s_law_) (by decide +kernel)) (fun _ _ _ _ _ => (pg_name (i := 18) sc_law.nd rfl (.inl rfl))) (fun _ _ _ _ _ => pts_nil) (fun _ _ _ _ _ => (pe_op op_mod (pe_ix ix_u (pv 8) (pv 18) (fun _ _ => rfl)) pe_int)))
  (pss_cons (ps_set (i := 10) sc_law.nd rfl (.inl rfl) (pe_ix ix_u (pv 3) (pe_op op_mod (pe_ix ix_u (pv 8) pe_int (fun _ _ => rfl)) pe_int) (fun _ _ => rfl)))
  (pss_cons (ps_set (i := 11) sc_law.nd rfl (.inl rfl) (pe_ix ix_u (pv 4) (pe_op op_mod (pe_ix ix_u (pv 8) pe_int (fun _ _ => rfl)) pe_int) (fun _ _ => rfl)))
  (pss_one (ps_for PassesOwn.never rfl (pi_range1 (by rfl) n_range (pa_cons pe_int pa_nil)) (pg_name (i := 12) sc_law.nd rfl (.inl rfl)) (pss_cons (ps_set (i := 13) sc_law.nd rfl (.inl rfl) (pe_go k__law_chart (hr.mono (by decide)) rfl F__law_chart.g F__law_chart.fn.kp F__law_chart.b pass0 (pa_cons (pv 10) (pa_cons (pv 11) pa_nil))))
  (pss_cons (ps_if (pt_cmpR (op_uEq hr.rm.units) (pe_op op_mod (pe_ix ix_u (pv 8) pe_int (fun _ _ => rfl)) pe_int) pe_int (nomark _)) (pss_cons (ps_par (i := 14) (j := 15) rfl sc_law.nd rfl rfl (by decide) rfl rfl (pa_cons (pe_ix ix_u (pv 5) (pe_ix ix_u (pv 9) pe_int (fun _ _ => rfl)) (fun _ _ => rfl)) (pa_cons (pe_ix ix_u (pv 5) (pe_op op_uAdd pe_int (pe_ix ix_u (pv 9) pe_int (fun _ _ => rfl))) (fun _ _ => rfl)) pa_nil)) (by rfl))
  (pss_cons (ps_set (i := 13) sc_law.nd rfl (.inl rfl) (pe_go k__law_way (hr.mono (by decide)) rfl F__law_way.g F__law_way.fn.kp F__law_way.b pass0 (pa_cons (pv 10) (pa_cons (pv 11) (pa_cons (pv 13) (pa_cons (pv 14) (pa_cons (pv 15) pa_nil)))))))
  (pss_one (ps_if (pt_cmpR op_isN (pv 13) pe_non (nomark _)) (pss_one (ps_set (i := 13) sc_law.nd rfl (.inl rfl) (pe_tupU pa_nil))) pss_nil)))) pss_nil)
  (pss_cons (ps_asg (pe_go k__law_pair (hr.mono (by decide)) rfl F__law_pair.g F__law_pair.fn.kp F__law_pair.b pass0 (pa_cons (pe_ix ix_u (pv 3) (pe_ix ix_u (pv 9) pe_int (fun _ _ => rfl)) (fun _ _ => rfl)) (pa_cons (pe_ix ix_u (pv 4) (pe_ix ix_u (pv 9) pe_int (fun _ _ => rfl)) (fun _ _ => rfl)) (pa_cons (pe_ix ix_u (pv 5) (pe_ix ix_u (pv 9) pe_int (fun _ _ => rfl)) (fun _ _ => rfl)) (pa_cons (pe_ix ix_u (pv 5) (pe_op op_uAdd pe_int (pe_ix ix_u (pv 9) pe_int (fun _ _ => rfl))) (fun _ _ => rfl)) (pa_cons (pe_op op_mod (pe_ix ix_u (pv 8) pe_int (fun _ _ => rfl)) pe_int) (pa_cons (pv 13) pa_nil))))))) (pg_tup rfl (pgs_cons (pg_name (i := 16) sc_law.nd rfl (.inl rfl)) (pgs_cons (pg_name (i := 17) sc_law.nd rfl (.inl rfl)) pgs_nil))))
  (pss_cons (ps_if (PW.pt (pw_or (pt_cmpR (op_uNe hr.rm.units) (pv 16) (pv 17) (nomark _)) (pw_or1 (pt_cmpR (op_uNe hr.rm.units) (pe_callB call_isi (by rfl) n_isinstance (by decide +kernel) (pa_cons (pv 16) (pa_cons (pe_bltn (v := .ty "bool") (by rfl) n_bool (by decide +kernel) rfl) pa_nil))) (pe_callB call_isi (by rfl) n_isinstance (by decide +kernel) (pa_cons (pv 17) (pa_cons (pe_bltn (v := .ty "bool") (by rfl) n_bool (by decide +kernel) rfl) pa_nil))) (nomark _))))) (pss_one (ps_ret pe_bl)) pss_nil)
  (pss_cons (ps_expr (pe_bm PySem.F.plainAttrs_list PySem.F.slot_list_append PySem.F.type_list_append mt_uAppend (pv 6) (pa_cons (pe_tupU (pa_cons (pv 16) (pa_cons (pv 17) pa_nil))) pa_nil)))
  (pss_one (ps_asg (pe_op op_sub pe_int (pe_ix ix_u (pv 9) (pe_op op_mod (pv 12) pe_int) (fun _ _ => rfl))) (pg_sub (pv 9) (pe_op op_mod (pv 12) pe_int) set_u)))))))))))))))
  (pss_one (ps_ret (pe_callB (cr_all rfl) (by rfl) n_all (by decide +kernel) (pa_cons (pe_lc (own := [("found", 16), ("due", 17)]) rfl sc_law.nd (pi_u (pv 6)) (blkOk_by (own := [("found", 16), ("due", 17)]) (N := N_law) (sc := defScope s_law_) (by decide +kernel)) (fun _ _ _ _ _ => (pg_tup rfl (pgs_cons (pg_name (i := 16) sc_law.nd rfl (.inl rfl)) (pgs_cons (pg_name (i := 17) sc_law.nd rfl (.inl rfl)) pgs_nil)))) (fun _ _ _ _ _ => pts_nil) (fun _ _ _ _ _ => (pe_cmpR (op_uEq hr.rm.units) (pv 16) (pv 17) (nomark _)))) pa_nil))))))))))))


local macro_rules | `(tactic| walk_at "hp") => `(tactic| first | assumption | (refine Keep.at (by assumption) ?_ ?_ <;> first | exact nin0 | (refine nin1 ?_; walk_at "ne") | walk_at "hp"))
local macro_rules | `(tactic| walk_at "ne") => `(tactic| first | assumption | (refine Ne.symm ?_; assumption) | exact Tup.neL (by assumption) (by assumption) | exact ne_of_none (by assumption) (by assumption) | exact (ne_of_none (by assumption) (by assumption)).symm)
local macro_rules | `(tactic| walk_at "sx") => `(tactic| try simp only [run, tSeq, tAsg, tIfS, tTest, tOp, tUn, tVar, tC, tRet, tRetN, tDrop, gName, gSub, gCons, gNil, tNext, tCons, tNil, tGo, tCB, tAndT, tOrT, tNotT, tTru, tAnd, tOr, tNot, tChain, tIf, tLstU, tTupU, tSl, tPart, tNoPart, tPar, tBM, tBM0, tDNewU, tDic1,
  List.getElem?_cons_zero, List.getElem?_cons_succ, List.set_cons_zero, List.set_cons_succ, Option.some.injEq, exists_eq_left', exists_eq_left, V.int.injEq, V.bl.injEq, V.str.injEq, V.ref.injEq, true_and, and_true, e_rI, e_rI0, e_rU, e_addI, e_addS, e_mulI, e_abs, e_max2, e_min2, e_str, e_intI, e_intB, e_isN, e_notN, e_truB, e_truI, wipe, tYes, tDicI, tIdx, tM1, tM0, e_lcU, e_lcR1, e_ten6, e_ten18, e_ten60, e_for1, e_for2, e_forU, e_forE, e_lcZ, e_dget, e_dput, e_forE, decide_eq_true_eq, if_true, if_false, ite_true, ite_false, Bool.false_eq_true, Bool.not_true, Bool.not_false, Bool.true_eq_false])
local macro_rules | `(tactic| walk_at "sz") => `(tactic| (first | refine len_le ?_ | refine len_lt ?_ | skip); simp only [List.length_cons, List.length_nil, List.length_append, List.length_map, List.length_replicate, List.length_set]; omega)
theorem cmul_small {i j : Int} (h : -(2 ^ 64) < i ∧ i < 2 ^ 64) : CMul i j := .inl h
theorem cmul_right {i j : Int} (h : -(2 ^ 64) < j ∧ j < 2 ^ 64) : CMul i j := .inr h
/-! ### rows of numbers -/
/-- a list of n numbers from 0 on, below a million -/
def Row (H : Hp) (a : Addr) (xs : List Int) : Prop := H a = some (.lst (xs.map V.int)) ∧ ∀ x ∈ xs, 0 ≤ x ∧ x < 1000000
theorem Row.keep {S : List Addr} {H H' : Hp} {a : Addr} {xs : List Int} (h : Row H a xs) (k : Keep S H H') (n : a ∉ S) : Row H' a xs := ⟨k _ _ n h.1, h.2⟩
theorem Row.get {xs : List Int} (h : ∀ x ∈ xs, 0 ≤ x ∧ x < 1000000) {i : Nat} (hi : i < xs.length) : ∃ x : Int, (xs.map V.int)[i]? = some (.int x) ∧ 0 ≤ x ∧ x < 1000000 := by
  refine ⟨xs[i], ?_, h _ (List.getElem_mem hi)⟩
  rw [List.getElem?_map, List.getElem?_eq_getElem hi]
  rfl
def spCell (K : PySem.W.Frag) : Sp := fun vs H Q _ => ∃ (a : Addr) (k : Int) (ns : List Int), vs = [.ref a, .int k] ∧ SqL K H a (ns.map V.int) ∧ 0 ≤ k ∧ ∀ c, Q (.int c) H
theorem rd_cell (K : PySem.W.Frag) : ∀ vs H Q E, spCell K vs H Q E → run (t__law_cell_at K) (L2.start N__law_cell_at vs) H Q := by
  rintro _ H Q _ ⟨a, k, ns, rfl, hS, k0, q⟩
  show run (t__law_cell_at K) [some (.ref a), some (.int k)] H Q
  unfold t__law_cell_at
  walk_at "sx"
  refine g_lenQ hS ?_
  walk_at "sx"
  rw [List.length_map]
  by_cases h : k < (ns.length : Int)
  · rw [if_pos h]
    have e : ((ns.map V.int))[k.toNat]? = some (.int ns[k.toNat]) := by
      rw [List.getElem?_map, List.getElem?_eq_getElem (show k.toNat < ns.length by omega)]
      rfl
    exact g_ixQ hS (at_lit k.toNat (by omega) e) (q _)
  · rw [if_neg h]
    unfold t__law_cell_at_r1
    walk_at "sx"
    exact q _
def spRow : Sp := fun vs H Q _ => ∃ (c : Int) (n : Nat), vs = [.int c, .int (n : Nat)] ∧ n ≤ 100 ∧ ∀ p H' xs, H p = none → Keep [] H H' → xs.length = n → Row H' p xs → Q (.ref p) H'
theorem mem_snoc {xs : List Int} {y : Int} (h : ∀ x ∈ xs, 0 ≤ x ∧ x < 1000000) (hy : 0 ≤ y ∧ y < 1000000) : ∀ x ∈ xs ++ [y], 0 ≤ x ∧ x < 1000000 := fun x hx => by
  rcases List.mem_append.mp hx with hx | hx
  · exact h x hx
  · rw [List.mem_singleton.mp hx]; exact hy
theorem rd_row (K : PySem.W.Frag) : ∀ vs H Q E, spRow vs H Q E → run (t__law_row K) (L2.start N__law_row vs) H Q := by
  rintro _ H Q _ ⟨c, n, rfl, hn, q⟩
  show run (t__law_row K) [some (.int c), some (.int (n : Nat)), none, none, none] H Q
  have fin : ∀ (f : Addr) (H1 : Hp) (nb : Int), H f = none → Keep [] H H1 → H1 f = some (.lst []) → (1000000000000000000 ≤ (if c < 0 then -c else c) ∨ (0 ≤ nb ∧ nb < 2147483647)) →
      t__law_row_r2 K { nx := fun _ H' => Q .non H', rt := Q } [some (.int c), some (.int (n : Nat)), some (.ref f), some (.int nb), none] H1 := fun f H1 nb nf k1 e1 hnb => by
    unfold t__law_row_r2
    walk_at "sx"
    refine g_FR1 (by omega) (by omega) ⟨fun i σ H' => ∃ (xs : List Int) (nb : Int) (y : Option V), σ = [some (.int c), some (.int (n : Nat)), some (.ref f), some (.int nb), y] ∧ xs.length = i ∧ Keep [] H H' ∧ Row H' f xs ∧ (1000000000000000000 ≤ (if c < 0 then -c else c) ∨ (0 ≤ nb ∧ nb < 2147483647)), ⟨[], nb, none, rfl, rfl, k1, ⟨e1, fun _ h => (List.not_mem_nil h).elim⟩, hnb⟩, ?_, ?_⟩
    · rintro i σ H2 hi ⟨xs, nb, y, rfl, hl, k2, ⟨e2, hx⟩, hb⟩
      unfold t__law_row_b1
      walk_at "sx"
      refine ⟨⟨by decide, by decide, by decide⟩, ?_⟩
      have hi' : (i : Int) < 100 := by omega
      by_cases h : (if c < 0 then -c else c) < 1000000000000000000
      · rw [if_pos h]
        walk_at "sx"
        have hb' : 0 ≤ nb ∧ nb < 2147483647 := by omega
        refine ⟨cmul_right (by decide), cmul_small (by decide), by decide, .inl ⟨rfl, _, .inl (.inl e2)⟩, ⟨by decide, by decide, ?_⟩, by decide, ⟨by decide, by decide⟩, ⟨by decide, by decide, by decide⟩, by decide, ?_⟩
        · have h1 := Int.emod_nonneg (nb * 48271 + 7 * (i : Int) + 11) (show (2147483647 : Int) ≠ 0 by decide)
          have h2 := Int.emod_lt_of_pos (nb * 48271 + 7 * (i : Int) + 11) (show (0 : Int) < 2147483647 by decide)
          omega
        refine g_append e2 (by rw [List.length_map]; exact len_lt (by omega)) fun H3 k3 e3 => ?_
        refine ⟨xs ++ [_], _, _, rfl, by simp [hl], k2.past k3 nf, ⟨by rw [List.map_append]; exact e3, mem_snoc hx ⟨Int.emod_nonneg _ (by decide), Int.emod_lt_of_pos _ (by decide)⟩⟩, .inr ⟨Int.emod_nonneg _ (by decide), Int.emod_lt_of_pos _ (by decide)⟩⟩
      · rw [if_neg h]
        walk_at "sx"
        refine ⟨.inl ⟨rfl, _, .inl (.inl e2)⟩, ⟨by decide, by decide, by decide⟩, by decide, g_append e2 (by rw [List.length_map]; exact len_lt (by omega)) fun H3 k3 e3 => ?_⟩
        walk_at "sx"
        refine ⟨⟨by decide, by decide, by decide⟩, ⟨by decide, by decide⟩, xs ++ [_], _, _, rfl, by simp [hl], k2.past k3 nf, ⟨by rw [List.map_append]; exact e3, mem_snoc hx ⟨Int.emod_nonneg _ (by decide), Int.emod_lt_of_pos _ (by decide)⟩⟩, .inl (by omega)⟩
    · rintro σ H2 ⟨xs, nb, y, rfl, hl, k2, hr, hb⟩
      unfold t__law_row_r1
      walk_at "sx"
      exact q f H2 xs nf k2 (by omega) hr
  unfold t__law_row
  walk_at "sx"
  refine ⟨by walk_at "sz", fun f H1 nf k1 e1 => ?_⟩
  walk_at "sx"
  refine ⟨⟨by decide, by decide, by decide⟩, ?_⟩
  by_cases h : (if c < 0 then -c else c) < 1000000000000000000
  · rw [if_pos h]
    walk_at "sx"
    exact ⟨by decide, fin f H1 _ nf k1 e1 (.inr ⟨Int.emod_nonneg _ (by decide), Int.lt_trans (Int.emod_lt_of_pos _ (by decide)) (by decide)⟩)⟩
  · rw [if_neg h]
    exact fin f H1 _ nf k1 e1 (.inl (by omega))
/-! ### texts by their signs -/
def cl (z : Str) : List Nat := z.cps.toList
theorem cl_app (x y : Str) : cl (x ++ y) = cl x ++ cl y := PySem.W.KT.app_list x y
theorem cl_inj {x y : Str} (h : cl x = cl y) : x = y := by
  obtain ⟨a⟩ := x
  obtain ⟨b⟩ := y
  exact congrArg Str.mk (Array.ext' h)
theorem cl_len (z : Str) : z.length = (cl z).length := by
  show z.cps.size = z.cps.toList.length
  rw [Array.length_toList]
theorem cl_cut (z : Str) (lo hi : Option Int) : cl (cutS z lo hi) = ((cl z).drop (HT.sIx z.length 0 lo)).take (HT.sIx z.length z.length hi - HT.sIx z.length 0 lo) := by
  unfold cl cutS
  simp
theorem cl_one (c : Nat) : cl ⟨#[c]⟩ = [c] := rfl
theorem cl_join0 : ∀ ys : List Str, cl (Txt.join "" ys) = (ys.map cl).flatten := by
  intro ys
  have h := TL.tl_join "" ys
  rw [TL.join_eq]
  have e : ∀ l : List (List Nat), TL.joinL [] l = l.flatten := by
    intro l
    induction l with
    | nil => rfl
    | cons a r ih =>
      cases r with
      | nil => simp [TL.joinL]
      | cons b r => 
        simp only [TL.joinL, List.nil_append, List.flatten_cons]
        rw [ih]
        simp
  exact h.trans (e _)
def sgn (i : Nat) : Nat := if i < 26 then 97 + i else 48 + (i - 26)
theorem sgn_at : ∀ i, i < 36 → (cl "abcdefghijklmnopqrstuvwxyz0123456789")[i]? = some (sgn i) := by decide +kernel
theorem sgn_inj {i j : Nat} (hi : i < 36) (hj : j < 36) (h : sgn i = sgn j) : i = j := by
  unfold sgn at h
  split at h <;> split at h <;> omega
def isLt (c : Nat) : Prop := 97 ≤ c ∧ c ≤ 122
def isSg (c : Nat) : Prop := isLt c ∨ (48 ≤ c ∧ c ≤ 57)
theorem sgn_sg {i : Nat} (h : i < 36) : isSg (sgn i) := by
  unfold isSg isLt sgn
  split <;> omega
theorem sgn_lt {i : Nat} (h : i < 26) : isLt (sgn i) := by
  unfold isLt sgn
  rw [if_pos h]
  omega
/-- a name by its signs -/
def NameOk (l : List Nat) : Prop := 1 ≤ l.length ∧ l.length ≤ 8 ∧ (∀ c ∈ l, isSg c) ∧ ∀ c, l.head? = some c → isLt c
instance (c : Nat) : Decidable (isLt c) := by unfold isLt; infer_instance
instance (c : Nat) : Decidable (isSg c) := by unfold isSg; infer_instance
def nameB (l : List Nat) : Bool := decide (1 ≤ l.length) && decide (l.length ≤ 8) && l.all (fun c => decide (isSg c)) && (l.take 1).all (fun c => decide (isLt c))
theorem nameB_ok {l : List Nat} (h : nameB l = true) : NameOk l := by
  unfold nameB at h
  simp only [Bool.and_eq_true, decide_eq_true_eq, List.all_eq_true] at h
  obtain ⟨⟨⟨h1, h2⟩, h3⟩, h4⟩ := h
  refine ⟨h1, h2, h3, fun c hc => h4 c ?_⟩
  cases l with
  | nil => cases hc
  | cons a r => cases hc; simp
/-! ### names -/
/-- the word with the sign c at its place t -/
def putAt (w : List Nat) (t c : Nat) : List Nat := w.take t ++ [c] ++ w.drop (t + 1)
theorem putAt_len {w : List Nat} {t c : Nat} (h : t < w.length) : (putAt w t c).length = w.length := by
  unfold putAt
  simp
  omega
theorem putAt_get {w : List Nat} {t c : Nat} (h : t < w.length) : (putAt w t c)[t]? = some c := by
  unfold putAt
  rw [List.append_assoc, List.getElem?_append_right (by simp; omega)]
  simp
  have : t - min t w.length = 0 := by omega
  rw [this]
  rfl
theorem putAt_sg {w : List Nat} {t c : Nat} (h : ∀ x ∈ w, isSg x) (hc : isSg c) : ∀ x ∈ putAt w t c, isSg x := by
  intro x hx
  unfold putAt at hx
  simp only [List.mem_append, List.mem_singleton] at hx
  rcases hx with (hx | rfl) | hx
  · exact h x (List.mem_of_mem_take hx)
  · exact hc
  · exact h x (List.mem_of_mem_drop hx)
theorem putAt_head {w : List Nat} {t c : Nat} (hl : t < w.length) (h : ∀ x, w.head? = some x → isLt x) (hc : t = 0 → isLt c) : ∀ x, (putAt w t c).head? = some x → isLt x := by
  intro x hx
  unfold putAt at hx
  cases t with
  | zero =>
    simp at hx
    rw [← hx]
    exact hc rfl
  | succ t =>
    cases w with
    | nil => exact absurd hl (by simp)
    | cons a r =>
      simp at hx
      exact h x (by simp [hx])
theorem take_name {l : List Nat} {n : Nat} (h1 : 1 ≤ l.length) (h2 : l.length ≤ 8) (h3 : ∀ c ∈ l, isSg c) (h4 : ∀ c, l.head? = some c → isLt c) (hn : 1 ≤ n) : NameOk (l.take n) := by
  refine ⟨by rw [List.length_take]; omega, by rw [List.length_take]; omega, fun c hc => h3 c (List.mem_of_mem_take hc), fun c hc => h4 c ?_⟩
  cases l with
  | nil => simp at hc
  | cons a r =>
    obtain ⟨m, rfl⟩ : ∃ m, n = m + 1 := ⟨n - 1, by omega⟩
    simpa using hc
theorem words_special : Txt.split "free to at sent there cut done off call told passed on open shut grade bare held" " " = (["free", "to", "at", "sent", "there", "cut", "done", "off", "call", "told", "passed", "on", "open", "shut", "grade", "bare", "held"] : List String).map Str.ofString := by decide +kernel
def specials : List Str := (["free", "to", "at", "sent", "there", "cut", "done", "off", "call", "told", "passed", "on", "open", "shut", "grade", "bare", "held", "moved", "stands", "drives"] : List String).map Str.ofString
theorem specials_ok : ∀ z ∈ specials, NameOk (cl z) := by
  intro z hz
  have h : ∀ z ∈ specials, nameB (cl z) = true := by decide +kernel
  exact nameB_ok (h z hz)
theorem atI_sgn {i : Int} (h0 : 0 ≤ i) (h1 : i < 36) : atI (Str.cps "abcdefghijklmnopqrstuvwxyz0123456789").toList i = some (sgn i.toNat) :=
  at_lit i.toNat (by omega) (sgn_at i.toNat (by omega))
/-- names of a row: unlike ones -/
def spNames : Sp := fun vs H Q _ => ∃ (r : Addr) (m : Nat) (xs : List Int), vs = [.ref r, .int (m : Nat)] ∧ Row H r xs ∧ 12 ≤ xs.length ∧ xs.length ≤ 100 ∧ 1 ≤ m ∧ m ≤ 15 ∧
  ∀ p H' (ys : List Str), H p = none → Keep [] H H' → H' p = some (.lst (ys.map V.str)) → ys.length = m → ys.Nodup → (∀ y ∈ ys, NameOk (cl y)) → Q (.ref p) H'
theorem nodup_set {ys : List Str} {j : Nat} {z : Str} (h : ys.Nodup) (hz : z ∉ ys) : (ys.set j z).Nodup := by
  induction ys generalizing j with
  | nil => exact h
  | cons a r ih =>
    cases j with
    | zero =>
      show (z :: r).Nodup
      exact List.nodup_cons.mpr ⟨fun q => hz (List.mem_cons_of_mem _ q), (List.nodup_cons.mp h).2⟩
    | succ j =>
      show (a :: r.set j z).Nodup
      refine List.nodup_cons.mpr ⟨fun q => ?_, ih (List.nodup_cons.mp h).2 fun q => hz (List.mem_cons_of_mem _ q)⟩
      rcases List.mem_or_eq_of_mem_set q with q | q
      · exact (List.nodup_cons.mp h).1 q
      · exact hz (q ▸ List.mem_cons_self)
theorem inV_str {z : Str} {ys : List Str} : inV (.str z) (ys.map V.str) = decide (z ∈ ys) := by
  unfold inV
  rw [Bool.eq_iff_iff, List.any_eq_true, decide_eq_true_eq]
  constructor
  · rintro ⟨v, hv, e⟩
    obtain ⟨y, hy, rfl⟩ := List.mem_map.mp hv
    have e' : y = z := by simpa [eqV] using e
    exact e' ▸ hy
  · intro h
    exact ⟨.str z, List.mem_map.mpr ⟨z, h, rfl⟩, by simp [eqV]⟩
theorem flat_strs (ys : List Str) : (ys.map V.str).all flatV = true := by
  rw [List.all_eq_true]
  intro v hv
  obtain ⟨y, _, rfl⟩ := List.mem_map.mp hv
  rfl
theorem e36 {P : Prop} [Decidable P] : ∃ w : Int, (atI [V.int 36, V.int 26] (if P then 1 else 0) = some (.int w)) ∧ w = if P then 26 else 36 := by
  by_cases h : P
  · rw [if_pos h]
    exact ⟨26, rfl, by rw [if_pos h]⟩
  · rw [if_neg h]
    exact ⟨36, rfl, by rw [if_neg h]⟩
theorem flat1 : ∀ cs : List Nat, (cs.map fun c => [c]).flatten = cs
  | [] => rfl
  | c :: cs => by simp [flat1 cs]
theorem mul_at {x : Int} (xs : List V) (n : Nat) (h : xs.length = n) (h0 : 0 < n) : ∃ v, atI xs (x % (n : Int)) = some v ∧ v ∈ xs := by
  have h1 := Int.emod_nonneg x (show ((n : Nat) : Int) ≠ 0 by omega)
  have h2 := Int.emod_lt_of_pos x (show 0 < ((n : Nat) : Int) by omega)
  have hl : (x % (n : Int)).toNat < xs.length := by omega
  exact ⟨xs[(x % (n : Int)).toNat], at_lit _ (by omega) (List.getElem?_eq_getElem hl), List.getElem_mem hl⟩
theorem cl_upto (z : Str) (k : Nat) : cl (cutS z none (some (k : Int))) = (cl z).take k := by
  rw [cl_cut, HT.sIx_nat, HT.sIx_none, List.drop_zero, Nat.sub_zero, cl_len]
  by_cases h : k ≤ (cl z).length
  · rw [Nat.min_eq_left h]
  · rw [Nat.min_eq_right (by omega), List.take_length, List.take_of_length_le (by omega)]
theorem cl_from (z : Str) (k : Nat) : cl (cutS z (some (k : Int)) none) = (cl z).drop k := by
  rw [cl_cut, HT.sIx_nat, HT.sIx_none, cl_len]
  by_cases h : k ≤ (cl z).length
  · rw [Nat.min_eq_left h, List.take_of_length_le (by rw [List.length_drop]; omega)]
  · rw [Nat.min_eq_right (by omega), Nat.sub_self, List.take_zero, List.drop_of_length_le (by omega)]
/-- the k-th name -/
def nameC (cs : List Nat) (t sz : Nat) (x st wd lot : Int) (k : Nat) : List Nat :=
  (putAt cs t (sgn ((x + (k : Int) * st) % wd).toNat)).take ((sz : Int) - lot % 2 * (3 * (k : Int) % ((sz : Int) - (t : Int)))).toNat
theorem step_inj {x st wd : Int} (hst : st = 1 ∨ st = 5 ∨ st = 7 ∨ st = 11) (hwd : wd = 26 ∨ wd = 36) {i j : Nat} (hi : i < 15) (hj : j < 15) (h : (x + (i : Int) * st) % wd = (x + (j : Int) * st) % wd) : i = j := by
  rcases hst with rfl | rfl | rfl | rfl <;> rcases hwd with rfl | rfl <;> omega
theorem lot01 {lot : Int} : lot % 2 = 0 ∨ lot % 2 = 1 := by omega
theorem nameC_cut {t sz : Nat} {lot : Int} {k : Nat} (ht : t < sz) : t + 1 ≤ ((sz : Int) - lot % 2 * (3 * (k : Int) % ((sz : Int) - (t : Int)))).toNat ∧ (0 : Int) ≤ (sz : Int) - lot % 2 * (3 * (k : Int) % ((sz : Int) - (t : Int))) := by
  have h1 := Int.emod_nonneg (3 * (k : Int)) (show (sz : Int) - t ≠ 0 by omega)
  have h2 := Int.emod_lt_of_pos (3 * (k : Int)) (show (0 : Int) < (sz : Int) - t by omega)
  rcases lot01 (lot := lot) with e | e <;> rw [e] <;> omega
theorem nameC_inj {cs : List Nat} {t sz : Nat} {x st wd lot : Int} (hst : st = 1 ∨ st = 5 ∨ st = 7 ∨ st = 11) (hwd : wd = 26 ∨ wd = 36) (hl : cs.length = sz) (ht : t < sz) {i j : Nat} (hi : i < 15) (hj : j < 15)
    (h : nameC cs t sz x st wd lot i = nameC cs t sz x st wd lot j) : i = j := by
  have get : ∀ k, (nameC cs t sz x st wd lot k)[t]? = some (sgn ((x + (k : Int) * st) % wd).toNat) := fun k => by
    unfold nameC
    have := (nameC_cut (lot := lot) (k := k) ht).1
    rw [List.getElem?_take_of_lt (by omega), putAt_get (by omega)]
  have e := (get i).symm.trans ((congrArg (fun l => l[t]?) h).trans (get j))
  have b1 : ∀ k : Nat, 0 ≤ (x + (k : Int) * st) % wd ∧ (x + (k : Int) * st) % wd < 36 := fun k => by
    have h1 := Int.emod_nonneg (x + (k : Int) * st) (show wd ≠ 0 by omega)
    have h2 := Int.emod_lt_of_pos (x + (k : Int) * st) (show 0 < wd by omega)
    omega
  have e2 := sgn_inj (by have := b1 i; omega) (by have := b1 j; omega) (Option.some.inj e)
  refine step_inj (x := x) hst hwd hi hj ?_
  have := b1 i
  have := b1 j
  omega
theorem nameC_ok {cs : List Nat} {t sz : Nat} {x st wd lot : Int} {k : Nat} (hl : cs.length = sz) (ht : t < sz) (h8 : sz ≤ 8) (hs : ∀ c ∈ cs, isSg c) (hh : ∀ c, cs.head? = some c → isLt c) (hwd : wd = 26 ∨ wd = 36) (h0 : t = 0 → wd = 26) : NameOk (nameC cs t sz x st wd lot k) := by
  have h1 := Int.emod_nonneg (x + (k : Int) * st) (show wd ≠ 0 by omega)
  have h2 := Int.emod_lt_of_pos (x + (k : Int) * st) (show 0 < wd by omega)
  have hp := putAt_len (w := cs) (c := sgn ((x + (k : Int) * st) % wd).toNat) (t := t) (by omega)
  refine take_name (by omega) (by omega) (putAt_sg hs (sgn_sg (by omega))) (putAt_head (by omega) hh fun e => ?_) (by have := (nameC_cut (lot := lot) (k := k) ht).1; omega)
  have := h0 e
  exact sgn_lt (by omega)
theorem nodup_cl {ys : List Str} (h : (ys.map cl).Nodup) : ys.Nodup := by
  induction ys with
  | nil => exact List.nodup_nil
  | cons a r ih =>
    rw [List.map_cons, List.nodup_cons] at h
    exact List.nodup_cons.mpr ⟨fun q => h.1 (List.mem_map.mpr ⟨a, q, rfl⟩), ih h.2⟩
theorem nodup_names {f : Nat → List Nat} (hf : ∀ i j, i < 15 → j < 15 → f i = f j → i = j) : ∀ n, n ≤ 15 → ((List.range n).map f).Nodup := by
  intro n
  induction n with
  | zero => intro _; exact List.nodup_nil
  | succ n ih =>
    intro hn
    rw [List.range_succ, List.map_append, List.nodup_append]
    refine ⟨ih (by omega), by simp, fun a ha b hb e => ?_⟩
    obtain ⟨i, hi, rfl⟩ := List.mem_map.mp ha
    rw [List.mem_singleton.mp hb] at e
    have := hf i n (by have := List.mem_range.mp hi; omega) (by omega) e
    have := List.mem_range.mp hi
    omega
theorem rd_names (K : PySem.W.Frag) : ∀ vs H Q E, spNames vs H Q E → run (t__law_names K) (L2.start N__law_names vs) H Q := by
  rintro _ H Q _ ⟨r, m, xs, rfl, ⟨hr, hx⟩, l20, l100, m1, m10, q⟩
  show run (t__law_names K) [some (.ref r), some (.int (m : Nat)), none, none, none, none, none, none, none, none, none, none, none, none, none] H Q
  obtain ⟨x0, e0, b0, c0⟩ := Row.get hx (i := 0) (by omega)
  obtain ⟨x1, e1, b1, c1⟩ := Row.get hx (i := 1) (by omega)
  obtain ⟨x10, e10, b10, c10⟩ := Row.get hx (i := 10) (by omega)
  obtain ⟨xl, el, bl, cl'⟩ := Row.get hx (i := xs.length - 1) (by omega)
  unfold t__law_names
  walk_at "sx"
  refine g_ixL hr (at_lit 0 rfl e0) ?_
  walk_at "sx"
  refine ⟨by decide, g_ixL hr (at_lit 1 rfl e1) ?_⟩
  walk_at "sx"
  have hs1 := Int.emod_nonneg x0 (show (8 : Int) ≠ 0 by decide)
  have hs2 := Int.emod_lt_of_pos x0 (show (0 : Int) < 8 by decide)
  generalize hsz : 1 + x0 % 8 = size
  have ha1 := Int.emod_nonneg x1 (show size ≠ 0 by omega)
  have ha2 := Int.emod_lt_of_pos x1 (show 0 < size by omega)
  generalize hat : x1 % size = t at ha1 ha2
  refine ⟨by omega, ⟨_, rfl⟩, ?_⟩
  obtain ⟨sz, rfl⟩ : ∃ n : Nat, size = (n : Int) := ⟨size.toNat, by omega⟩
  obtain ⟨at0, rfl⟩ : ∃ n : Nat, t = (n : Int) := ⟨t.toNat, by omega⟩
  refine g_CR1 (S := []) (fun _ h => (List.not_mem_nil h).elim) (by omega) (by omega) ⟨fun i H' acc => ∃ cs : List Nat, acc = cs.map (fun c => V.str ⟨#[c]⟩) ∧ cs.length = i ∧ (∀ c ∈ cs, isSg c) ∧ ∀ c, cs.head? = some c → isLt c, ?_, ?_, ?_⟩
  · intro D H2 _ _
    exact ⟨[], rfl, rfl, fun _ h => (List.not_mem_nil h).elim, fun _ h => nomatch h⟩
  · rintro D i H2 acc R R0 nD hi k2 eD ⟨cs, rfl, hcl, hcs, hch⟩ hR _
    walk_at "sx"
    obtain ⟨xi, ei, bi, ci⟩ := Row.get hx (i := 2 + i) (by omega)
    refine g_ixL (k2 _ _ nin0 hr) (at_lit (2 + i) (by omega) ei) ?_
    walk_at "sx"
    refine ⟨by walk_at "sz", fun l H3 n3 k3 e3 => g_eq rfl ?_⟩
    walk_at "sx"
    obtain ⟨w, hw, ew⟩ := e36 (P := (i : Int) = 0)
    refine g_ixL e3 hw ?_
    walk_at "sx"
    have hw0 : 0 < w ∧ w ≤ 36 := by rw [ew]; split <;> omega
    have h1 := Int.emod_nonneg xi (show w ≠ 0 by omega)
    have h2 := Int.emod_lt_of_pos xi hw0.1
    refine ⟨hw0.1, g_ixS (by decide) (atI_sgn h1 (by omega)) ?_⟩
    refine hR _ _ k3 (by rw [List.length_map]; exact len_lt (by omega)) fun H5 k5 => ⟨cs ++ [_], by rw [List.map_append]; rfl, by simp [hcl], fun c hc => ?_, fun c hc => ?_⟩
    · rcases List.mem_append.mp hc with hc | hc
      · exact hcs c hc
      · rw [List.mem_singleton.mp hc]
        exact sgn_sg (by omega)
    · cases cs with
      | nil =>
        have e : i = 0 := by simpa using hcl.symm
        subst e
        have : w = 26 := by rw [ew]; simp
        simp at hc
        rw [← hc]
        exact sgn_lt (by omega)
      | cons a rr => exact hch c (by simpa using hc)
  · rintro D H2 acc nD k2 eD ⟨cs, rfl, hcl, hcs, hch⟩
    rw [Int.toNat_natCast] at hcl
    have hr2 := k2 _ _ nin0 hr
    refine ⟨"", D, cs.map (fun c => ⟨#[c]⟩), rfl, rfl, .inl (lst_sq (by rw [eD, List.map_map]; rfl)), ?_, ?_⟩
    · have e : ((cs.map fun c => (⟨#[c]⟩ : Str)).map (·.length)).sum = cs.length := by
        clear hcl hcs hch eD
        induction cs with
        | nil => rfl
        | cons a r ih => 
          simp only [List.map_cons, List.sum_cons, List.length_cons, ih]
          show 1 + r.length = r.length + 1
          omega
      rw [e]
      show cs.length + (cs.map fun c => (⟨#[c]⟩ : Str)).length * 0 ≤ 16777216
      omega
    generalize hword : Txt.join "" (cs.map fun c => (⟨#[c]⟩ : Str)) = word
    have ecl : cl word = cs := by
      rw [← hword, cl_join0, List.map_map]
      have : (cl ∘ fun c => (⟨#[c]⟩ : Str)) = fun c => [c] := rfl
      rw [this, flat1]
    clear hword
    walk_at "sx"
    refine ⟨by walk_at "sz", fun l3 H3 n3 k3 f3 => g_eq rfl ?_⟩
    walk_at "sx"
    obtain ⟨wd, hw, ew⟩ := e36 (P := (at0 : Int) = 0)
    have hwd : wd = 26 ∨ wd = 36 := by rw [ew]; split <;> simp
    have hwd0 : at0 = 0 → wd = 26 := fun e => by rw [ew, if_pos (by omega)]
    refine g_ixL f3 hw ?_
    walk_at "sx"
    refine ⟨by walk_at "sz", fun l4 H4 n4 k4 f4 => ?_⟩
    have hr4 := k4 _ _ nin0 (k3 _ _ nin0 hr2)
    refine g_ixL hr4 (at_lit 10 rfl e10) ?_
    walk_at "sx"
    refine ⟨by decide, ?_⟩
    obtain ⟨v, hv, mv⟩ := mul_at (x := x10) [V.int 1, V.int 5, V.int 7, V.int 11] 4 rfl (by decide)
    obtain ⟨st, rfl, hst⟩ : ∃ st : Int, v = .int st ∧ (st = 1 ∨ st = 5 ∨ st = 7 ∨ st = 11) := by
      simp only [List.mem_cons, List.not_mem_nil, or_false] at mv
      rcases mv with rfl | rfl | rfl | rfl
      · exact ⟨1, rfl, by simp⟩
      · exact ⟨5, rfl, by simp⟩
      · exact ⟨7, rfl, by simp⟩
      · exact ⟨11, rfl, by simp⟩
    refine g_ixL f4 hv (g_lenL hr4 ?_)
    walk_at "sx"
    refine g_ixL hr4 (at_lit (xs.length - 1) (by rw [List.length_map]; omega) el) ⟨by walk_at "sz", fun nm H5 n5 k5 f5 => ?_⟩
    have hr5 := k5 _ _ nin0 hr4
    have k25 : Keep [] H H5 := k2.trans (k3.trans (k4.trans k5))
    have nnm : H nm = none := (k2.trans (k3.trans k4)).free nin0 n5
    have nmr : r ≠ nm := ne_of_none hr4 n5
    have htz : at0 < sz := by omega
    have hz8 : sz ≤ 8 := by omega
    obtain ⟨x11, e11, b11, c11⟩ := Row.get hx (i := 11) (by omega)
    refine g_FR1 (by omega) (by omega) ⟨fun i σ H' => ∃ (ys : List Str) (y5 y11 y12 : Option V), σ = [some (.ref r), some (.int (m : Nat)), some (.str "abcdefghijklmnopqrstuvwxyz0123456789"), some (.int (sz : Nat)), some (.int (at0 : Nat)), y5, some (.str word), some (.int wd), some (.int st), some (.int xl), some (.ref nm), y11, y12, none, none] ∧
      ys.map cl = (List.range i).map (nameC cs at0 sz x11 st wd xl) ∧ Keep [nm] H5 H' ∧ H' nm = some (.lst (ys.map V.str)), ⟨[], none, none, none, rfl, rfl, Keep.refl _ _, f5⟩, ?_, ?_⟩
    · rintro i σ H6 hi ⟨ys, y5, y11, y12, rfl, hys, k6, f6⟩
      have hr6 := k6 _ _ (nin1 nmr) hr5
      unfold t__law_names_b1
      walk_at "sx"
      refine g_ixL hr6 (at_lit 11 rfl e11) ?_
      walk_at "sx"
      have hidx1 := Int.emod_nonneg (x11 + (i : Int) * st) (show wd ≠ 0 by omega)
      have hidx2 := Int.emod_lt_of_pos (x11 + (i : Int) * st) (show 0 < wd by omega)
      refine ⟨cmul_right (by omega), by omega, g_ixS (by decide) (atI_sgn hidx1 (by omega)) (g_slS (by rw [cl_len, ecl]; exact len_le (by omega)) ?_)⟩
      walk_at "sx"
      have lw : word.length = sz := by rw [cl_len, ecl, hcl]
      generalize hA : cutS word none (some (at0 : Int)) = A
      have cA : cl A = cs.take at0 := by rw [← hA, cl_upto, ecl]
      have lA : A.length ≤ 8 := by rw [cl_len, cA, List.length_take]; omega
      have lB : (⟨#[sgn ((x11 + (i : Int) * st) % wd).toNat]⟩ : Str).length = 1 := rfl
      refine ⟨len_le (by omega), g_slS (len_le (by omega)) ?_⟩
      walk_at "sx"
      have e1' : (at0 : Int) + 1 = ((at0 + 1 : Nat) : Int) := by omega
      rw [e1']
      generalize hC : cutS word (some ((at0 + 1 : Nat) : Int)) none = C
      have cC : cl C = cs.drop (at0 + 1) := by rw [← hC, cl_from, ecl]
      have lC : C.length ≤ 8 := by rw [cl_len, cC, List.length_drop]; omega
      have lAB : (A ++ (⟨#[sgn ((x11 + (i : Int) * st) % wd).toNat]⟩ : Str)).length ≤ 9 := by
        rw [cl_len, cl_app, List.length_append, ← cl_len, ← cl_len]
        omega
      refine ⟨len_le (by omega), .inl ⟨rfl, _, .inl (.inl f6)⟩, by decide, ?_⟩
      have cut := nameC_cut (lot := xl) (k := i) htz
      refine ⟨cmul_small (by decide), by omega, cmul_small (by omega), g_slS ?_ ?_⟩
      · rw [cl_len, cl_app, List.length_append, ← cl_len, ← cl_len]
        exact len_le (by omega)
      generalize hN : A ++ (⟨#[sgn ((x11 + (i : Int) * st) % wd).toNat]⟩ : Str) ++ C = N
      have cN : cl N = putAt cs at0 (sgn ((x11 + (i : Int) * st) % wd).toNat) := by
        rw [← hN, cl_app, cl_app, cA, cC, cl_one]
        rfl
      refine g_append f6 (by rw [List.length_map]; have := congrArg List.length hys; simp at this; exact len_lt (by omega)) fun H7 k7 f7 => ?_
      refine ⟨ys ++ [_], _, _, _, rfl, ?_, k6.trans k7, by rw [List.map_append]; exact f7⟩
      rw [List.range_succ, List.map_append, List.map_append, hys]
      congr 1
      show [cl _] = [_]
      congr 1
      have e3 : (sz : Int) - xl % 2 * (3 * (i : Int) % ((sz : Int) - (at0 : Int))) = ((((sz : Int) - xl % 2 * (3 * (i : Int) % ((sz : Int) - (at0 : Int)))).toNat : Nat) : Int) := by omega
      rw [e3, cl_upto, cN]
      rfl
    · rintro σ H6 ⟨ys, y5, y11, y12, rfl, hys, k6, f6⟩
      rw [Int.toNat_natCast] at hys
      have ylen : ys.length = m := by have := congrArg List.length hys; simpa using this
      have ynd : ys.Nodup := nodup_cl (by rw [hys]; exact nodup_names (fun i j hi hj e => nameC_inj hst hwd hcl htz hi hj e) m m10)
      have yok : ∀ y ∈ ys, NameOk (cl y) := fun y hy => by
        have : cl y ∈ ys.map cl := List.mem_map.mpr ⟨y, hy, rfl⟩
        rw [hys] at this
        obtain ⟨k, _, ek⟩ := List.mem_map.mp this
        rw [← ek]
        exact nameC_ok hcl htz hz8 hcs hch hwd hwd0
      have k06 : Keep [] H H6 := k25.past k6 nnm
      unfold t__law_names_r2
      walk_at "sx"
      refine ⟨⟨_, rfl⟩, _, _, rfl, rfl, by decide, by decide +kernel, fun w1 H7 n7 k7 f7 => ?_⟩
      rw [words_special] at f7
      walk_at "sx"
      refine ⟨by walk_at "sz", fun w2 H8 n8 k8 f8 => ?_⟩
      walk_at "sx"
      refine g_addL (k8 _ _ nin0 f7) f8 (by walk_at "sz") fun w3 H9 n9 k9 f9 => ?_
      walk_at "sx"
      refine ⟨⟨by decide, by decide⟩, by decide, ?_⟩
      have f9' : H9 w3 = some (.lst (specials.map V.str)) := f9
      obtain ⟨v, hv, mv⟩ := mul_at (x := xl / 8) (specials.map V.str) 20 rfl (by decide)
      obtain ⟨sp, hsp, rfl⟩ := List.mem_map.mp mv
      refine g_ixL f9' hv ?_
      walk_at "sx"
      have k69 : Keep [] H6 H9 := k7.trans (k8.trans k9)
      have f6' := k69 _ _ nin0 f6
      refine ⟨⟨by decide, by decide⟩, by decide, g_eq rfl ⟨_, rfl, ?_⟩⟩
      have done : ∀ H' (zs : List Str) y5 y11 y12 x1 x2, Keep [nm] H9 H' → H' nm = some (.lst (zs.map V.str)) → zs.length = m → zs.Nodup → (∀ y ∈ zs, NameOk (cl y)) → t__law_names_r1 K { nx := fun x H' => Q V.non H', rt := Q }
          [some (V.ref r), some (V.int m), some (V.str "abcdefghijklmnopqrstuvwxyz0123456789"), some (V.int sz), some (V.int at0), y5, some (V.str word), some (V.int wd), some (V.int st), some (V.int xl), some (V.ref nm), y11, y12, x1, x2] H' := by
        intro H' zs y5 y11 y12 x1 x2 kz fz zl znd zok
        unfold t__law_names_r1
        walk_at "sx"
        exact q nm H' zs nnm ((k06.trans k69).past kz nnm) fz zl znd zok
      by_cases hc : decide (V.int (xl / 2 % 4) = V.int 1) = true
      · rw [if_pos hc]
        refine .inl ⟨nm, ys.map V.str, rfl, .inl (lst_sq f6'), rfl, flat_strs ys, _, rfl, ?_⟩
        rw [if_pos rfl, inV_str]
        by_cases hm : sp ∈ ys
        · rw [decide_eq_true hm]
          exact iteF (done _ ys _ _ _ _ _ (Keep.refl _ _) f6' ylen ynd yok)
        · rw [decide_eq_false hm]
          refine iteT ⟨⟨by decide, by decide⟩, by omega, ?_⟩
          have h1 := Int.emod_nonneg (xl / 160) (show (m : Int) ≠ 0 by omega)
          have h2 := Int.emod_lt_of_pos (xl / 160) (show (0 : Int) < m by omega)
          refine g_setL f6' (k := (xl / 160 % (m : Int)).toNat) ?_ fun H10 k10 f10 => ?_
          · unfold ixN
            rw [if_pos h1, List.length_map, if_pos (by omega)]
          · rw [← List.map_set] at f10
            refine done _ (ys.set (xl / 160 % (m : Int)).toNat sp) _ _ _ _ _ k10 f10 (by rw [List.length_set, ylen]) (nodup_set ynd hm) fun y hy => ?_
            rcases List.mem_or_eq_of_mem_set hy with hy | rfl
            · exact yok y hy
            · exact specials_ok _ hsp
      · rw [if_neg hc]
        exact done _ ys _ _ _ _ _ (Keep.refl _ _) f6' ylen ynd yok
/-! ### towns -/
def mV : Option Int → V
  | none => .non
  | some i => .int i
structure Rd where
  one : Str
  two : Str
  there : Option Int
  back : Option Int
structure Tn where
  places : List Str
  roads : List Rd
  stands : List Str
  reach : Int
def minOk (t : Option Int) : Prop := ∀ i, t = some i → 1 ≤ i ∧ i ≤ 60
structure RdOk (ys : List Str) (r : Rd) : Prop where
  one : r.one ∈ ys
  two : r.two ∈ ys
  ne : r.one ≠ r.two
  there : minOk r.there
  back : minOk r.back
  some : r.there ≠ none ∨ r.back ≠ none
structure TnOk (T : Tn) : Prop where
  p1 : 1 ≤ T.places.length
  p10 : T.places.length ≤ 10
  nd : T.places.Nodup
  nm : ∀ y ∈ T.places, NameOk (cl y)
  r18 : T.roads.length ≤ 18
  rd : ∀ r ∈ T.roads, RdOk T.places r
  s1 : 1 ≤ T.stands.length
  s5 : T.stands.length ≤ 5
  sn : T.stands.Nodup
  sp : ∀ y ∈ T.stands, y ∈ T.places
  re0 : 0 ≤ T.reach
  re1 : T.reach ≤ 120
def RdAt (H : Hp) (p : Addr) (r : Rd) : Prop := Tup H p [.str r.one, .str r.two, mV r.there, mV r.back]
/-- the roads' tuples, one by one -/
inductive RdsAt (H : Hp) : List V → List Rd → Prop
  | nil : RdsAt H [] []
  | cons {p : Addr} {r : Rd} {vs : List V} {rs : List Rd} : RdAt H p r → RdsAt H vs rs → RdsAt H (.ref p :: vs) (r :: rs)
def TnAt (H : Hp) (a : Addr) (T : Tn) : Prop := ∃ ap ar as vs, Tup H a [.ref ap, .ref ar, .ref as, .int T.reach] ∧ Tup H ap (T.places.map V.str) ∧ Tup H ar vs ∧ RdsAt H vs T.roads ∧ Tup H as (T.stands.map V.str)
/-- what is changed is no tuple -/
def NoTup (S : List Addr) (H : Hp) : Prop := ∀ a xs, Tup H a xs → a ∉ S
theorem noTup0 {H : Hp} : NoTup [] H := fun _ _ _ => nin0
theorem noTup1 {H : Hp} {l : Addr} {xs : List V} (h : H l = some (.lst xs)) : NoTup [l] H := fun _ _ t => nin1 (t.neL h)
theorem noTupNew {H : Hp} {l : Addr} (h : H l = none) : NoTup [l] H := fun a _ t => nin1 fun z => by
  obtain ⟨o, e⟩ := t.there
  rw [z, h] at e
  cases e
theorem RdAt.keep {S : List Addr} {H H' : Hp} {p : Addr} {r : Rd} (h : RdAt H p r) (k : Keep S H H') (n : NoTup S H) : RdAt H' p r := Tup.keep h k (n _ _ h)
theorem RdsAt.keep {S : List Addr} {H H' : Hp} (k : Keep S H H') (n : NoTup S H) : ∀ {vs : List V} {rs : List Rd}, RdsAt H vs rs → RdsAt H' vs rs
  | _, _, .nil => .nil
  | _, _, .cons h q => .cons (h.keep k n) (RdsAt.keep k n q)
theorem TnAt.keep {S : List Addr} {H H' : Hp} {a : Addr} {T : Tn} (h : TnAt H a T) (k : Keep S H H') (n : NoTup S H) : TnAt H' a T := by
  obtain ⟨ap, ar, as, vs, h1, h2, h3, h4, h5⟩ := h
  exact ⟨ap, ar, as, vs, h1.keep k (n _ _ h1), h2.keep k (n _ _ h2), h3.keep k (n _ _ h3), h4.keep k n, h5.keep k (n _ _ h5)⟩
theorem RdsAt.len {H : Hp} : ∀ {vs : List V} {rs : List Rd}, RdsAt H vs rs → vs.length = rs.length
  | _, _, .nil => rfl
  | _, _, .cons _ q => congrArg (· + 1) q.len
theorem RdsAt.snoc {H : Hp} {p : Addr} {r : Rd} (h : RdAt H p r) : ∀ {vs : List V} {rs : List Rd}, RdsAt H vs rs → RdsAt H (vs ++ [.ref p]) (rs ++ [r])
  | _, _, .nil => .cons h .nil
  | _, _, .cons h' q => .cons h' (RdsAt.snoc h q)
theorem RdsAt.get {H : Hp} : ∀ {vs : List V} {rs : List Rd} {i : Nat} {r : Rd}, RdsAt H vs rs → rs[i]? = some r → ∃ p, vs[i]? = some (.ref p) ∧ RdAt H p r
  | _, _, _, _, .nil, e => by simp at e
  | _, _, 0, _, .cons (p := p) h _, e => by
    simp at e
    subst e
    exact ⟨p, rfl, h⟩
  | _, _, i + 1, _, .cons _ q, e => by
    obtain ⟨p, h1, h2⟩ := RdsAt.get (i := i) q (by simpa using e)
    exact ⟨p, by simpa using h1, h2⟩
theorem turned_sub {ys : List Str} {a k : Nat} (ha : a ≤ ys.length) (hk : k ≤ ys.length) : (((ys ++ ys).drop a).take k).Sublist (ys.drop a ++ ys.take a) := by
  rw [List.drop_append_of_le_length ha, List.take_append]
  refine List.Sublist.append (List.take_sublist _ _) ?_
  have : k - (ys.drop a).length ≤ a := by rw [List.length_drop]; omega
  exact List.IsPrefix.sublist (List.take_prefix_take_left this)
theorem turned_nodup {ys : List Str} {a k : Nat} (h : ys.Nodup) (ha : a ≤ ys.length) (hk : k ≤ ys.length) : (((ys ++ ys).drop a).take k).Nodup := by
  have e : (ys.drop a ++ ys.take a).Nodup := by
    have h2 := h
    rw [← List.take_append_drop a ys, List.nodup_append] at h2
    rw [List.nodup_append]
    exact ⟨h2.2.1, h2.1, fun x hx y hy e => h2.2.2 y hy x hx e.symm⟩
  exact e.sublist (turned_sub ha hk)
theorem turned_mem {ys : List Str} {a k : Nat} : ∀ y ∈ ((ys ++ ys).drop a).take k, y ∈ ys := fun y hy => by
  have := List.mem_of_mem_drop (List.mem_of_mem_take hy)
  simpa using this
theorem e2v {P : Prop} [Decidable P] {x : V} : atI [x, V.non] (if P then 1 else 0) = some (if P then .non else x) := by
  by_cases h : P
  · rw [if_pos h, if_pos h]; rfl
  · rw [if_neg h, if_neg h]; rfl
def spRoad : Sp := fun vs H Q _ => ∃ (r nm : Addr) (xs : List Int) (ys : List Str), vs = [.ref r, .ref nm] ∧ Row H r xs ∧ 6 ≤ xs.length ∧ H nm = some (.lst (ys.map V.str)) ∧ 2 ≤ ys.length ∧ ys.length ≤ 10 ∧ ys.Nodup ∧
  ∀ p H' rd, Keep [] H H' → RdAt H' p rd → RdOk ys rd → Q (.ref p) H'
theorem at_str {ys : List Str} {i : Int} (h0 : 0 ≤ i) (h1 : i < ys.length) : ∃ y, atI (ys.map V.str) i = some (.str y) ∧ ys[i.toNat]? = some y := by
  have hl : i.toNat < ys.length := by omega
  refine ⟨ys[i.toNat], at_lit i.toNat (by omega) ?_, List.getElem?_eq_getElem hl⟩
  rw [List.getElem?_map, List.getElem?_eq_getElem hl]
  rfl
theorem nodup_ne {ys : List Str} (h : ys.Nodup) {i j : Nat} {a b : Str} (ha : ys[i]? = some a) (hb : ys[j]? = some b) (hij : i ≠ j) : a ≠ b := fun e => by
  subst e
  obtain ⟨h1, e1⟩ := List.getElem?_eq_some_iff.mp ha
  obtain ⟨h2, e2⟩ := List.getElem?_eq_some_iff.mp hb
  exact hij ((List.getElem_inj h).mp (e1.trans e2.symm))
theorem rd_road (K : PySem.W.Frag) : ∀ vs H Q E, spRoad vs H Q E → run (t__law_road K) (L2.start N__law_road vs) H Q := by
  rintro _ H Q _ ⟨r, nm, xs, ys, rfl, ⟨hr, hx⟩, l6, hn, n2, n10, nd, q⟩
  show run (t__law_road K) [some (.ref r), some (.ref nm), none, none, none, none, none] H Q
  obtain ⟨x0, e0, b0, c0⟩ := Row.get hx (i := 0) (by omega)
  obtain ⟨x1, e1, b1, c1⟩ := Row.get hx (i := 1) (by omega)
  obtain ⟨x2, e2, b2, c2⟩ := Row.get hx (i := 2) (by omega)
  obtain ⟨x3, e3, b3, c3⟩ := Row.get hx (i := 3) (by omega)
  obtain ⟨x4, e4, b4, c4⟩ := Row.get hx (i := 4) (by omega)
  obtain ⟨x5, e5, b5, c5⟩ := Row.get hx (i := 5) (by omega)
  unfold t__law_road
  walk_at "sx"
  refine g_ixL hr (at_lit 0 rfl e0) (g_lenL hn ?_)
  walk_at "sx"
  rw [List.length_map]
  refine ⟨by omega, g_ixL hr (at_lit 1 rfl e1) (g_lenL hn ?_)⟩
  walk_at "sx"
  rw [List.length_map]
  have o1 := Int.emod_nonneg x0 (show (ys.length : Int) ≠ 0 by omega)
  have o2 := Int.emod_lt_of_pos x0 (show 0 < (ys.length : Int) by omega)
  have p1 := Int.emod_nonneg x1 (show (ys.length : Int) - 1 ≠ 0 by omega)
  have p2 := Int.emod_lt_of_pos x1 (show 0 < (ys.length : Int) - 1 by omega)
  generalize hone : x0 % (ys.length : Int) = one at o1 o2
  generalize hd : x1 % ((ys.length : Int) - 1) = d at p1 p2
  refine ⟨by omega, g_lenL hn ?_⟩
  walk_at "sx"
  rw [List.length_map]
  have q1 := Int.emod_nonneg (one + 1 + d) (show (ys.length : Int) ≠ 0 by omega)
  have q2 := Int.emod_lt_of_pos (one + 1 + d) (show 0 < (ys.length : Int) by omega)
  have hne : (one + 1 + d) % (ys.length : Int) ≠ one := by
    by_cases h : one + 1 + d < (ys.length : Int)
    · rw [Int.emod_eq_of_lt (by omega) h]
      omega
    · have : (one + 1 + d) % (ys.length : Int) = one + 1 + d - ys.length := by
        rw [← Int.sub_emod_right, Int.emod_eq_of_lt (by omega) (by omega)]
      rw [this]
      omega
  generalize hoth : (one + 1 + d) % (ys.length : Int) = other at q1 q2 hne
  refine ⟨by omega, by walk_at "sz", fun l1 H1 n1 k1 f1 => g_ixL (k1 _ _ nin0 hr) (at_lit 4 rfl e4) ?_⟩
  walk_at "sx"
  obtain ⟨v, hv, mv⟩ := mul_at (x := x4) [V.int 2, V.int 5, V.int 60] 3 rfl (by decide)
  obtain ⟨sp, rfl, hsp⟩ : ∃ sp : Int, v = .int sp ∧ (sp = 2 ∨ sp = 5 ∨ sp = 60) := by
    simp only [List.mem_cons, List.not_mem_nil, or_false] at mv
    rcases mv with rfl | rfl | rfl
    · exact ⟨2, rfl, by simp⟩
    · exact ⟨5, rfl, by simp⟩
    · exact ⟨60, rfl, by simp⟩
  have hr1 := k1 _ _ nin0 hr
  refine ⟨by decide, g_ixL f1 hv (g_ixL hr1 (at_lit 2 rfl e2) ?_)⟩
  walk_at "sx"
  refine ⟨by omega, by walk_at "sz", fun l2 H2 n2' k2 f2 => ?_⟩
  have hr2 := k2 _ _ nin0 hr1
  refine g_ixL hr2 (at_lit 5 rfl e5) ?_
  walk_at "sx"
  refine ⟨by decide, g_eq rfl ?_⟩
  walk_at "sx"
  refine g_ixL f2 e2v (g_ixL hr2 (at_lit 3 rfl e3) ?_)
  walk_at "sx"
  refine ⟨by omega, by walk_at "sz", fun l3 H3 n3 k3 f3 => ?_⟩
  have hr3 := k3 _ _ nin0 hr2
  refine g_ixL hr3 (at_lit 5 rfl e5) ?_
  walk_at "sx"
  refine ⟨by decide, g_eq rfl ?_⟩
  walk_at "sx"
  have hn3 := k3 _ _ nin0 (k2 _ _ nin0 (k1 _ _ nin0 hn))
  obtain ⟨a, ha, ga⟩ := at_str (ys := ys) o1 o2
  obtain ⟨b, hb, gb⟩ := at_str (ys := ys) q1 q2
  refine g_ixL f3 e2v (g_ixL hn3 ha (g_ixL hn3 hb ⟨by walk_at "sz", fun p H4 n4 k4 t4 => ?_⟩))
  have m2 := Int.emod_nonneg x2 (show sp ≠ 0 by omega)
  have m2' := Int.emod_lt_of_pos x2 (show 0 < sp by omega)
  have m3 := Int.emod_nonneg x3 (show sp ≠ 0 by omega)
  have m3' := Int.emod_lt_of_pos x3 (show 0 < sp by omega)
  refine q p H4 ⟨a, b, if x5 % 5 = 1 then none else some (1 + x2 % sp), if x5 % 5 = 2 then none else some (1 + x3 % sp)⟩ (k1.trans (k2.trans (k3.trans k4))) ?_ ?_
  · have z1 : (if x5 % 5 = 1 then V.non else V.int (1 + x2 % sp)) = mV (if x5 % 5 = 1 then none else some (1 + x2 % sp)) := by split <;> rfl
    have z2 : (if x5 % 5 = 2 then V.non else V.int (1 + x3 % sp)) = mV (if x5 % 5 = 2 then none else some (1 + x3 % sp)) := by split <;> rfl
    rw [z1, z2] at t4
    exact t4
  · refine ⟨List.mem_of_getElem? ga, List.mem_of_getElem? gb, nodup_ne nd ga gb (by omega), fun i e => ?_, fun i e => ?_, ?_⟩
    · simp only at e
      split at e
      · cases e
      · cases e; omega
    · simp only at e
      split at e
      · cases e
      · cases e; omega
    · simp only
      by_cases h : x5 % 5 = 1
      · right
        rw [if_neg (by omega)]
        simp
      · left
        rw [if_neg h]
        simp
theorem cut_map {α : Type} (f : α → V) (xs : List α) (lo hi : Option Int) : cutV (xs.map f) lo hi = ((xs.drop (HT.sIx xs.length 0 lo)).take (HT.sIx xs.length xs.length hi - HT.sIx xs.length 0 lo)).map f := by
  unfold cutV
  rw [List.length_map, List.map_take, List.map_drop]
theorem cut_nat {α : Type} (f : α → V) (xs : List α) (i j : Nat) : cutV (xs.map f) (some (i : Int)) (some (j : Int)) = ((xs.drop (min i xs.length)).take (min j xs.length - min i xs.length)).map f := by
  rw [cut_map, HT.sIx_nat, HT.sIx_nat]
def spTown (K : PySem.W.Frag) : Sp := fun vs H Q _ => ∃ (a : Addr) (st : Nat) (ns : List Int), vs = [.ref a, .int (st : Nat)] ∧ Scr K H a (ns.map V.int) ∧
  ∀ p H' T, Keep [] H H' → TnAt H' p T → TnOk T → Q (.ref p) H'
theorem rd_town (K : PySem.W.Frag) : ∀ vs H Q E, spTown K vs H Q E → run (t__law_town K spRow (spCell K) spNames spRoad) (L2.start N__law_town vs) H Q := by
  rintro _ H Q _ ⟨a, st, ns, rfl, hS, q⟩
  show run (t__law_town K spRow (spCell K) spNames spRoad) [some (.ref a), some (.int (st : Nat)), none, none, none, none, none, none, none] H Q
  unfold t__law_town
  walk_at "sx"
  refine ⟨a, st, ns, rfl, hS.sq, Int.natCast_nonneg st, fun c => ?_⟩
  walk_at "sx"
  refine ⟨c, 20, rfl, by decide, fun r H1 xs n1 k1 l1 hr => ?_⟩
  obtain ⟨hr, hx⟩ := hr
  obtain ⟨x12, e12, b12, c12⟩ := Row.get hx (i := 12) (by omega)
  obtain ⟨x13, e13, b13, c13⟩ := Row.get hx (i := 13) (by omega)
  obtain ⟨x14, e14, b14, c14⟩ := Row.get hx (i := 14) (by omega)
  obtain ⟨x16, e16, b16, c16⟩ := Row.get hx (i := 16) (by omega)
  obtain ⟨x17, e17, b17, c17⟩ := Row.get hx (i := 17) (by omega)
  walk_at "sx"
  refine g_ixL hr (at_lit 12 rfl e12) ?_
  walk_at "sx"
  refine ⟨by decide, r, (1 + x12 % 10).toNat, xs, ?_, ⟨hr, hx⟩, by omega, by omega, by omega, by omega, fun nm H2 ys n2 k2 hn ly nd ok => ?_⟩
  · rw [Int.toNat_of_nonneg (by omega)]
  walk_at "sx"
  refine ⟨by walk_at "sz", fun rl H3 n3 k3 hrl => ?_⟩
  walk_at "sx"
  have hS3 : Scr K H3 a (ns.map V.int) := hS.keep0 (k1.trans (k2.trans k3))
  refine g_slL hS3.sq fun ms H4 n4 k4 hms => ?_
  have hcut := cut_nat V.int ns (st + 1) (st + 19)
  rw [show ((st + 1 : Nat) : Int) = (st : Int) + 1 by omega, show ((st + 19 : Nat) : Int) = (st : Int) + 19 by omega] at hcut
  rw [hcut] at hms
  have hcl : ((ns.drop (min (st + 1) ns.length)).take (min (st + 19) ns.length - min (st + 1) ns.length)).length ≤ 18 := by
    rw [List.length_take, List.length_drop]
    omega
  generalize ((ns.drop (min (st + 1) ns.length)).take (min (st + 19) ns.length - min (st + 1) ns.length)) = cs at hms hcl
  clear hcut
  refine g_FL (fun i σ H' => ∃ y vs rs, σ = [some (.ref a), some (.int (st : Nat)), some (.ref r), some (.ref nm), some (.ref rl), y, none, none, none] ∧ Keep [rl] H4 H' ∧ H' rl = some (.lst vs) ∧ RdsAt H' vs rs ∧ rs.length ≤ i ∧ ∀ x ∈ rs, RdOk ys x) (lst_sq hms)
    ⟨none, [], [], rfl, Keep.refl _ _, k4 _ _ nin0 hrl, .nil, Nat.le_refl _, fun _ h => (List.not_mem_nil h).elim⟩ ?_ ?_ ?_
  · rintro i σ H' _ ⟨y, vs, rs, rfl, k5, _⟩
    exact lst_sq (k5 _ _ (nin1 (ne_of_none hrl n4).symm) hms)
  · rintro i x σ H5 hi ⟨y, vs, rs, rfl, k5, e5, d5, l5, o5⟩
    obtain ⟨hlt, hxe⟩ := List.getElem?_eq_some_iff.mp hi
    rw [List.getElem_map] at hxe
    have hlt' : i < cs.length := by rwa [List.length_map] at hlt
    subst hxe
    unfold t__law_town_b1
    walk_at "sx"
    have hn4 : H4 nm = some (.lst (ys.map V.str)) := k4 _ _ nin0 (k3 _ _ nin0 hn)
    have hnm : nm ≠ rl := ne_of_none hn n3
    have hn5 := k5 _ _ (nin1 hnm) hn4
    refine g_lenL hn5 ?_
    walk_at "sx"
    rw [List.length_map]
    by_cases h : 1 < (ys.length : Int)
    · rw [if_pos (by simpa using h)]
      walk_at "sx"
      refine ⟨.inl ⟨rfl, _, .inl (.inl e5)⟩, _, 6, rfl, by decide, fun r6 H6 x6 n6 k6 l6 hr6 => ?_⟩
      walk_at "sx"
      refine ⟨r6, nm, x6, ys, rfl, hr6, by omega, k6 _ _ nin0 hn5, by omega, by omega, nd, fun p H7 rd k7 t7 o7 => ?_⟩
      walk_at "sx"
      have kk := k6.trans k7
      have e7 := kk _ _ nin0 e5
      have d7 := d5.keep kk noTup0
      refine g_append e7 (by rw [d7.len]; exact len_lt (by omega)) fun H8 k8 e8 => ?_
      refine ⟨_, vs ++ [.ref p], rs ++ [rd], rfl, k5.trans (kk.all.trans k8), e8, (d7.keep k8 (noTup1 e7)).snoc (t7.keep k8 (noTup1 e7)), by rw [List.length_append]; exact Nat.add_le_add_right l5 1, fun x hx => ?_⟩
      rcases List.mem_append.mp hx with hx | hx
      · exact o5 x hx
      · rw [List.mem_singleton.mp hx]; exact o7
    · rw [if_neg (by simpa using h)]
      exact ⟨_, vs, rs, rfl, k5, e5, d5, Nat.le_succ_of_le l5, o5⟩
  · rintro σ H5 ⟨y, vs, rs, rfl, k5, e5, d5, l5, o5⟩
    rw [List.length_map] at l5
    have kr : Keep [rl] H2 H5 := k3.all.trans (k4.all.trans k5)
    have hr5 := k5 _ _ (nin1 (ne_of_none (k2 _ _ nin0 hr) n3)) (k4 _ _ nin0 (k3 _ _ nin0 (k2 _ _ nin0 hr)))
    have hn5 := kr _ _ (nin1 (ne_of_none hn n3)) hn
    have ky : Keep [] H H5 := (k1.trans k2).past kr (k1.free nin0 (k2.free nin0 n3))
    unfold t__law_town_r1
    walk_at "sx"
    refine g_ixL hr5 (at_lit 14 rfl e14) (g_lenL hn5 ?_)
    walk_at "sx"
    rw [List.length_map]
    refine ⟨by omega, g_addL hn5 hn5 (by rw [List.length_map]; exact len_le (by omega)) fun nn H6 n6 k6 e6 => ?_⟩
    walk_at "sx"
    refine g_ixL (k6 _ _ nin0 hr5) (at_lit 13 rfl e13) ?_
    walk_at "sx"
    refine g_lenL (k6 _ _ nin0 hn5) ?_
    walk_at "sx"
    rw [List.length_map]
    have hm5 : 1 ≤ (if (ys.length : Int) < 5 then (ys.length : Int) else 5) ∧ (if (ys.length : Int) < 5 then (ys.length : Int) else 5) ≤ 5 ∧ (if (ys.length : Int) < 5 then (ys.length : Int) else 5) ≤ ys.length := by split <;> omega
    generalize (if (ys.length : Int) < 5 then (ys.length : Int) else 5) = m5 at hm5
    obtain ⟨m1, m2, m3⟩ := hm5
    have p1 := Int.emod_nonneg x14 (show (ys.length : Int) ≠ 0 by omega)
    have p2 := Int.emod_lt_of_pos x14 (show 0 < (ys.length : Int) by omega)
    have p3 := Int.emod_nonneg x13 (show m5 ≠ 0 by omega)
    have p4 := Int.emod_lt_of_pos x13 (show 0 < m5 by omega)
    obtain ⟨at', hat⟩ : ∃ at' : Nat, x14 % (ys.length : Int) = at' := ⟨_, (Int.toNat_of_nonneg p1).symm⟩
    obtain ⟨k', hk⟩ : ∃ k' : Nat, x13 % m5 = k' := ⟨_, (Int.toNat_of_nonneg p3).symm⟩
    rw [hat, hk, show (at' : Int) + 1 + k' = ((at' + (1 + k') : Nat) : Int) by omega]
    rw [← List.map_append] at e6
    have hcut := cut_nat V.str (ys ++ ys) at' (at' + (1 + k'))
    rw [List.length_append, show min at' (ys.length + ys.length) = at' by omega, show min (at' + (1 + k')) (ys.length + ys.length) - at' = 1 + k' by omega] at hcut
    have hsl : (((ys ++ ys).drop at').take (1 + k')).length = 1 + k' := by rw [List.length_take, List.length_drop, List.length_append]; omega
    have hsn := turned_nodup (a := at') (k := 1 + k') nd (by omega) (by omega)
    have hsm := turned_mem (ys := ys) (a := at') (k := 1 + k')
    refine ⟨by omega, g_slL (lst_sq e6) fun sl H7 n7 k7 e7 => ?_⟩
    rw [hcut] at e7
    generalize ((ys ++ ys).drop at').take (1 + k') = ss at e7 hsl hsn hsm
    have ky7 := k6.trans k7
    have hr7 := ky7 _ _ nin0 hr5
    refine g_ixL hr7 (at_lit 16 rfl e16) ?_
    walk_at "sx"
    refine ⟨by decide, g_ixL hr7 (at_lit 16 rfl e16) ?_⟩
    walk_at "sx"
    refine ⟨by decide, by walk_at "sz", fun l8 H8 n8 k8 e8 => ?_⟩
    refine g_ixL (k8 _ _ nin0 hr7) (at_lit 17 rfl e17) ?_
    walk_at "sx"
    obtain ⟨v, hv, mv⟩ := mul_at (x := x17) [V.int (x16 % 121), V.int (x16 % 13), V.int 120, V.int 0] 4 rfl (by decide)
    obtain ⟨re, rfl, hre⟩ : ∃ re : Int, v = .int re ∧ 0 ≤ re ∧ re ≤ 120 := by
      simp only [List.mem_cons, List.not_mem_nil, or_false] at mv
      rcases mv with rfl | rfl | rfl | rfl
      · exact ⟨_, rfl, by omega, by omega⟩
      · exact ⟨_, rfl, by omega, by omega⟩
      · exact ⟨_, rfl, by omega, by omega⟩
      · exact ⟨_, rfl, by omega, by omega⟩
    have ky8 := ky7.trans k8
    refine ⟨by decide, g_ixL e8 hv (g_tupleL (ky8 _ _ nin0 hn5) fun t1 H9 n9 k9 e9 => g_tupleL (k9 _ _ nin0 (ky8 _ _ nin0 e5)) fun t2 H10 n10 k10 e10 => g_tupleL ((k8.trans (k9.trans k10)) _ _ nin0 e7) fun t3 H11 n11 k11 e11 => ⟨by walk_at "sz", fun p H12 n12 k12 e12 => ?_⟩)⟩
    have kz : Keep [] H5 H12 := ky8.trans (k9.trans (k10.trans (k11.trans k12)))
    refine q p H12 ⟨ys, rs, ss, re⟩ (ky.trans kz) ⟨t1, t2, t3, vs, e12, e9.keep (k10.trans (k11.trans k12)) nin0, e10.keep (k11.trans k12) nin0, d5.keep kz noTup0, e11.keep k12 nin0⟩ ⟨by show 1 ≤ ys.length; omega, by show ys.length ≤ 10; omega, nd, ok, by show rs.length ≤ 18; omega, o5, by show 1 ≤ ss.length; omega, by show ss.length ≤ 5; omega, hsn, hsm, hre.1, hre.2⟩
theorem g_tup {K : PySem.W.Frag} {p : Addr} {xs : List V} {n : Nat} {t : TGs} {σ : L2.St} {H : Hp} {Q : L2.St → Hp → Prop} (h : Tup H p xs) (l : xs.length = n) (q : t xs σ H Q) : gTup K n t (.ref p) σ H Q := ⟨p, xs, rfl, h.sq, l, q⟩
theorem inV_int {i : Int} {zs : List Int} : inV (.int i) (zs.map V.int) = decide (i ∈ zs) := by
  unfold inV
  induction zs with
  | nil => rfl
  | cons a r ih =>
    rw [List.map_cons, List.any_cons, ih]
    by_cases h : a = i
    · subst h
      simp [eqV]
    · have h' : ¬ i = a := fun e => h e.symm
      simp [eqV, h, h']
theorem flat_ints (zs : List Int) : (zs.map V.int).all flatV = true := by
  rw [List.all_map]
  exact List.all_eq_true.mpr fun _ _ => rfl
theorem g_notinT {K : PySem.W.Frag} {p : Addr} {i : Int} {zs : List Int} {H : Hp} {Q : VK} (h : Tup H p (zs.map V.int)) (q : Q (.bl (!decide (i ∈ zs))) H) : uIn K true (.int i) (.ref p) H Q :=
  .inl ⟨p, _, rfl, .inr h.sq, rfl, flat_ints zs, by rw [if_pos rfl, inV_int]; exact q⟩
/-! rows of any kind -/
inductive Rws {α : Type} (f : α → List V) (H : Hp) : List V → List α → Prop
  | nil : Rws f H [] []
  | cons {p : Addr} {r : α} {vs : List V} {rs : List α} : Tup H p (f r) → Rws f H vs rs → Rws f H (.ref p :: vs) (r :: rs)
section
variable {α : Type} {f : α → List V} {H H' : Hp}
theorem Rws.keep {S : List Addr} (k : Keep S H H') (n : NoTup S H) : ∀ {vs : List V} {rs : List α}, Rws f H vs rs → Rws f H' vs rs
  | _, _, .nil => .nil
  | _, _, .cons h q => .cons (h.keep k (n _ _ h)) (Rws.keep k n q)
theorem Rws.len : ∀ {vs : List V} {rs : List α}, Rws f H vs rs → vs.length = rs.length
  | _, _, .nil => rfl
  | _, _, .cons _ q => congrArg (· + 1) q.len
theorem Rws.snoc {p : Addr} {r : α} (h : Tup H p (f r)) : ∀ {vs : List V} {rs : List α}, Rws f H vs rs → Rws f H (vs ++ [.ref p]) (rs ++ [r])
  | _, _, .nil => .cons h .nil
  | _, _, .cons h' q => .cons h' (Rws.snoc h q)
theorem Rws.get : ∀ {vs : List V} {rs : List α} {i : Nat} {r : α}, Rws f H vs rs → rs[i]? = some r → ∃ p, vs[i]? = some (.ref p) ∧ Tup H p (f r)
  | _, _, _, _, .nil, e => by simp at e
  | _, _, 0, _, .cons (p := p) h _, e => by
    simp at e
    subst e
    exact ⟨p, rfl, h⟩
  | _, _, i + 1, _, .cons _ q, e => by
    obtain ⟨p, h1, h2⟩ := Rws.get (i := i) q (by simpa using e)
    exact ⟨p, by simpa using h1, h2⟩
end
/-! ### the steps of a town -/
def pIx : List Str → Str → Nat
  | [], _ => 0
  | y :: ys, z => if y = z then 0 else pIx ys z + 1
theorem pIx_at {z : Str} : ∀ {ys : List Str}, z ∈ ys → ys[pIx ys z]? = some z
  | y :: ys, h => by
    unfold pIx
    by_cases e : y = z
    · rw [if_pos e, e]; rfl
    · rw [if_neg e]
      exact pIx_at ((List.mem_cons.mp h).resolve_left fun q => e q.symm)
theorem pIx_first {z : Str} : ∀ {ys : List Str} {m : Nat}, m < pIx ys z → ys[m]? ≠ some z
  | [], _, h => by simp
  | y :: ys, m, h => by
    unfold pIx at h
    by_cases e : y = z
    · rw [if_pos e] at h; omega
    · rw [if_neg e] at h
      cases m with
      | zero => simpa using e
      | succ m => simpa using pIx_first (ys := ys) (m := m) (by omega)
theorem pIx_lt {z : Str} {ys : List Str} (h : z ∈ ys) : pIx ys z < ys.length := (List.getElem?_eq_some_iff.mp (pIx_at h)).1
structure Stp where
  k : Nat
  a : Nat
  b : Nat
  m : Int
def stV (s : Stp) : List V := [.int (s.k : Nat), .int (s.a : Nat), .int (s.b : Nat), .int s.m]
def thereOf (ys : List Str) (k : Nat) (r : Rd) : List Stp := match r.there with
  | none => []
  | some m => [⟨k, pIx ys r.one, pIx ys r.two, m⟩]
def backOf (ys : List Str) (k : Nat) (r : Rd) : List Stp := match r.back with
  | none => []
  | some m => [⟨k, pIx ys r.two, pIx ys r.one, m⟩]
def stepsAt (T : Tn) (zs : List Int) (k : Nat) : List Stp := match T.roads[k]? with
  | none => []
  | some r => if (k : Int) ∈ zs then [] else thereOf T.places k r ++ backOf T.places k r
def stepsTo (T : Tn) (zs : List Int) (n : Nat) : List Stp := (List.range n).flatMap (stepsAt T zs)
theorem stepsTo_succ (T : Tn) (zs : List Int) (n : Nat) : stepsTo T zs (n + 1) = stepsTo T zs n ++ stepsAt T zs n := by
  unfold stepsTo
  rw [List.range_succ, List.flatMap_append]
  simp
theorem stepsAt_len (T : Tn) (zs : List Int) (k : Nat) : (stepsAt T zs k).length ≤ 2 := by
  unfold stepsAt
  split
  · simp
  · split
    · simp
    · unfold thereOf backOf
      split <;> split <;> simp
theorem stepsTo_len (T : Tn) (zs : List Int) (n : Nat) : (stepsTo T zs n).length ≤ 2 * n := by
  induction n with
  | zero => simp [stepsTo]
  | succ n ih =>
    have := stepsAt_len T zs n
    rw [stepsTo_succ, List.length_append]
    omega
def spSteps : Sp := fun vs H Q _ => ∃ (t sh : Addr) (T : Tn) (zs : List Int), vs = [.ref t, .ref sh] ∧ TnAt H t T ∧ TnOk T ∧ Tup H sh (zs.map V.int) ∧
  ∀ p H' us, H p = none → Keep [] H H' → H' p = some (.lst us) → Rws stV H' us (stepsTo T zs T.roads.length) → Q (.ref p) H'
theorem notN (o : Option Int) : decide (mV o = V.non) = o.isNone := by cases o <;> rfl
theorem steps_half (K : PySem.W.Frag) {D : Ends} {t sh p : Addr} {i : Nat} {o1 o2 : V} {th bk : Option Int} {a b : Nat} {H : Hp} {zs : List Int} {us : List V} {ss : List Stp} (hz : Tup H sh (zs.map V.int)) (hp : H p = some (.lst us)) (w : Rws stV H us ss) (l : ss.length ≤ 100)
    (h : ∀ H' us', Keep [p] H H' → H' p = some (.lst us') → Rws stV H' us' (ss ++ if (i : Int) ∈ zs then [] else match bk with | none => [] | some m => [⟨i, b, a, m⟩]) → D.nx [some (.ref t), some (.ref sh), some (.ref p), some (.int (i : Nat)), some o1, some o2, some (mV th), some (mV bk), some (.int (a : Nat)), some (.int (b : Nat))] H') :
    t__law_steps_r1 K D [some (.ref t), some (.ref sh), some (.ref p), some (.int (i : Nat)), some o1, some o2, some (mV th), some (mV bk), some (.int (a : Nat)), some (.int (b : Nat))] H := by
  unfold t__law_steps_r1
  walk_at "sx"
  refine g_notinT hz ?_
  by_cases hi : (i : Int) ∈ zs
  · rw [decide_eq_true hi]
    walk_at "sx"
    rw [if_pos hi, List.append_nil] at h
    exact h H us (Keep.refl _ _) hp w
  · rw [decide_eq_false hi]
    walk_at "sx"
    rw [if_neg hi] at h
    rw [notN]
    cases bk with
    | none =>
      walk_at "sx"
      rw [List.append_nil] at h
      exact h H us (Keep.refl _ _) hp w
    | some m =>
      walk_at "sx"
      refine ⟨.inl ⟨rfl, _, .inl (.inl hp)⟩, by walk_at "sz", fun x H4 n4 k4 t4 => ?_⟩
      have e4 := k4 _ _ nin0 hp
      refine g_append e4 (by rw [w.len]; exact len_lt (by omega)) fun H5 k5 e5 => ?_
      exact h H5 _ (k4.all.trans k5) e5 (Rws.snoc (r := ⟨i, b, a, m⟩) (t4.keep k5 (noTup1 e4 _ _ t4)) ((w.keep k4 noTup0).keep k5 (noTup1 e4)))
theorem rd_steps (K : PySem.W.Frag) : ∀ vs H Q E, spSteps vs H Q E → run (t__law_steps K) (L2.start N__law_steps vs) H Q := by
  rintro _ H Q _ ⟨t, sh, T, zs, rfl, hT, ok, hz, q⟩
  have hT0 := hT
  obtain ⟨ap, ar, as, rv, g1, g2, g3, g4, g5⟩ := hT
  show run (t__law_steps K) [some (.ref t), some (.ref sh), none, none, none, none, none, none, none, none] H Q
  unfold t__law_steps
  walk_at "sx"
  refine ⟨by walk_at "sz", fun p H1 n1 k1 e1 => ?_⟩
  walk_at "sx"
  refine g_ixT (g1.keep k1 nin0) (at_lit 1 rfl rfl) ?_
  refine g_lenT (g3.keep k1 nin0) ?_
  have hrl := g4.len
  have r18 := ok.r18
  refine g_FR1 (by omega) (by omega) ⟨fun i σ H' => ∃ y3 y4 y5 y6 y7 y8 y9 us, σ = [some (.ref t), some (.ref sh), some (.ref p), y3, y4, y5, y6, y7, y8, y9] ∧ Keep [p] H1 H' ∧ H' p = some (.lst us) ∧ Rws stV H' us (stepsTo T zs i),
    ⟨_, _, _, _, _, _, _, [], rfl, Keep.refl _ _, e1, .nil⟩, ?_, ?_⟩
  · rintro i σ H2 hi ⟨y3, y4, y5, y6, y7, y8, y9, us, rfl, k2, e2, w2⟩
    have hi' : i < T.roads.length := by omega
    obtain ⟨pr, ev, hr⟩ := g4.get (List.getElem?_eq_getElem hi')
    have ro := ok.rd _ (List.getElem_mem hi')
    generalize hrr : T.roads[i] = rd at hr ro
    have hst : stepsAt T zs i = if (i : Int) ∈ zs then [] else thereOf T.places i rd ++ backOf T.places i rd := by
      unfold stepsAt
      rw [List.getElem?_eq_getElem hi', hrr]
    have k12 : Keep [] H H2 := k1.past k2 n1
    have hl := stepsTo_len T zs i
    unfold t__law_steps_b1
    walk_at "sx"
    refine g_ixT (g1.keep k12 nin0) (at_lit 1 rfl rfl) ?_
    refine g_ixT (g3.keep k12 nin0) (at_lit i rfl ev) (g_tup (Tup.keep hr k12 nin0) rfl ?_)
    walk_at "sx"
    refine ⟨_, _, rfl, _, _, rfl, _, _, rfl, _, _, rfl, rfl, g_ixT (g1.keep k12 nin0) (at_lit 0 rfl rfl) ⟨ap, T.places, rfl, g2.keep k12 nin0, rd.one, pIx T.places rd.one, rfl, g2.keep k12 nin0, pIx_at ro.one, fun m => pIx_first,
      g_ixT (g1.keep k12 nin0) (at_lit 0 rfl rfl) ⟨ap, T.places, rfl, g2.keep k12 nin0, rd.two, pIx T.places rd.two, rfl, g2.keep k12 nin0, pIx_at ro.two, fun m => pIx_first, g_notinT (hz.keep k12 nin0) ?_⟩⟩⟩
    walk_at "sx"
    have sh3 : ∀ {H3}, Keep [p] H2 H3 → Tup H3 sh (zs.map V.int) := fun k => (hz.keep k12 nin0).keep k (nin1 (ne_of_none (hz.there.choose_spec) n1))
    by_cases hzi : (i : Int) ∈ zs
    · rw [decide_eq_true hzi]
      walk_at "sx"
      refine steps_half K (hz.keep k12 nin0) e2 w2 (by omega) fun H' us' k' e' w' => ⟨_, _, _, _, _, _, _, us', rfl, k2.trans k', e', ?_⟩
      rw [if_pos hzi] at w' hst
      rw [stepsTo_succ, hst]
      exact w'
    · rw [decide_eq_false hzi]
      walk_at "sx"
      rw [if_neg hzi] at hst
      rw [notN]
      have hb : ∀ ss, ss = stepsTo T zs i ++ thereOf T.places i rd → stepsTo T zs (i + 1) = ss ++ (match rd.back with | none => [] | some m => [⟨i, pIx T.places rd.two, pIx T.places rd.one, m⟩]) := fun ss e => by
        rw [stepsTo_succ, hst, e, List.append_assoc]
        rfl
      unfold thereOf at hb
      cases hth : rd.there with
      | none =>
        walk_at "sx"
        rw [hth] at hb
        refine steps_half (th := none) K (hz.keep k12 nin0) e2 w2 (by omega) fun H' us' k' e' w' => ⟨_, _, _, _, _, _, _, us', rfl, k2.trans k', e', ?_⟩
        rw [if_neg hzi] at w'
        rw [hb _ (List.append_nil _).symm]
        exact w'
      | some m =>
        walk_at "sx"
        rw [hth] at hb
        rw [if_pos (show (!(some m : Option Int).isNone) = true from rfl)]
        refine ⟨.inl ⟨rfl, _, .inl (.inl e2)⟩, by walk_at "sz", fun x H4 n4 k4 t4 => ?_⟩
        have e4 := k4 _ _ nin0 e2
        refine g_append e4 (by rw [w2.len]; exact len_lt (by omega)) fun H5 k5 e5 => ?_
        refine steps_half (th := some m) K (sh3 (k4.all.trans k5)) e5 (Rws.snoc (r := ⟨i, pIx T.places rd.one, pIx T.places rd.two, m⟩) (t4.keep k5 (noTup1 e4 _ _ t4)) ((w2.keep k4 noTup0).keep k5 (noTup1 e4))) (by rw [List.length_append]; simp only [List.length_cons, List.length_nil]; omega)
          fun H' us' k' e' w' => ⟨_, _, _, _, _, _, _, us', rfl, k2.trans ((k4.all.trans k5).trans k'), e', ?_⟩
        rw [if_neg hzi] at w'
        rw [hb _ rfl]
        exact w'
  · rintro σ H2 ⟨y3, y4, y5, y6, y7, y8, y9, us, rfl, k2, e2, w2⟩
    unfold t__law_steps_r2
    walk_at "sx"
    rw [Int.toNat_natCast, hrl] at w2
    exact q p H2 us n1 (k1.past k2 n1) e2 w2
def led (T : Tn) (k : Nat) (z : Str) : Option (Str × Int) := match T.roads[k]? with
  | none => none
  | some r => match (if z = r.one then r.there else none) with
    | some m => some (r.two, m)
    | none => match (if z = r.two then r.back else none) with
      | some m => some (r.one, m)
      | none => none
theorem led_lt {T : Tn} {k : Nat} {z : Str} {w : Str × Int} (h : led T k z = some w) : k < T.roads.length := by
  unfold led at h
  cases e : T.roads[k]? with
  | none => rw [e] at h; cases h
  | some r => exact (List.getElem?_eq_some_iff.mp e).1
def spLed : Sp := fun vs H Q _ => ∃ (t : Addr) (k : Nat) (z : Str) (T : Tn), vs = [.ref t, .int (k : Nat), .str z] ∧ TnAt H t T ∧ k < T.roads.length ∧
  (led T k z = none → Q .non H) ∧ ∀ y m, led T k z = some (y, m) → ∀ p H', Keep [] H H' → Tup H' p [.str y, .int m] → Q (.ref p) H'
theorem dec_strV {a b : Str} : decide (V.str a = V.str b) = decide (a = b) := by
  by_cases h : a = b
  · rw [h, decide_eq_true rfl, decide_eq_true rfl]
  · rw [decide_eq_false h, decide_eq_false fun e => h (by cases e; rfl)]
theorem rd_led (K : PySem.W.Frag) : ∀ vs H Q E, spLed vs H Q E → run (t_led_to K) (L2.start N_led_to vs) H Q := by
  rintro _ H Q _ ⟨t, k, z, T, rfl, hT, hk, q0, q⟩
  obtain ⟨ap, ar, as, rv, g1, g2, g3, g4, g5⟩ := hT
  obtain ⟨pr, ev, hr⟩ := g4.get (List.getElem?_eq_getElem hk)
  have hl : led T k z = match (if z = T.roads[k].one then T.roads[k].there else none) with
      | some m => some (T.roads[k].two, m)
      | none => match (if z = T.roads[k].two then T.roads[k].back else none) with
        | some m => some (T.roads[k].one, m)
        | none => none := by
    unfold led
    rw [List.getElem?_eq_getElem hk]
  generalize T.roads[k] = r at hr hl
  obtain ⟨one, two, there, back⟩ := r
  simp only at hl
  show run (t_led_to K) [some (.ref t), some (.int (k : Nat)), some (.str z), none, none, none, none] H Q
  have fin : (if z = one then there else none) = none → t_led_to_r2 K { nx := fun x H' => Q .non H', rt := Q } [some (.ref t), some (.int (k : Nat)), some (.str z), some (.str one), some (.str two), some (mV there), some (mV back)] H := fun h0 => by
    rw [h0] at hl
    simp only at hl
    unfold t_led_to_r2
    walk_at "sx"
    refine g_eq rfl ?_
    rw [dec_strV]
    have last : (if z = two then back else none) = none → t_led_to_r1 K { nx := fun x H' => Q .non H', rt := Q } [some (.ref t), some (.int (k : Nat)), some (.str z), some (.str one), some (.str two), some (mV there), some (mV back)] H := fun h1 => by
      unfold t_led_to_r1
      walk_at "sx"
      rw [h1] at hl
      exact q0 hl
    by_cases h : z = two
    · rw [decide_eq_true h]
      walk_at "sx"
      rw [notN]
      rw [if_pos h] at hl last
      cases back with
      | none => exact last rfl
      | some m =>
        rw [if_pos (show (!(some m : Option Int).isNone) = true from rfl)]
        exact ⟨by walk_at "sz", fun p H' _ k' t' => q _ _ hl p H' k' t'⟩
    · rw [decide_eq_false h]
      walk_at "sx"
      exact last (if_neg h)
  unfold t_led_to
  walk_at "sx"
  refine g_ixT g1 (at_lit 1 rfl rfl) (g_ixT g3 (at_lit k rfl ev) (g_tup hr rfl ?_))
  walk_at "sx"
  refine ⟨_, _, rfl, _, _, rfl, _, _, rfl, _, _, rfl, rfl, g_eq rfl ?_⟩
  rw [dec_strV]
  by_cases h : z = one
  · rw [decide_eq_true h]
    walk_at "sx"
    rw [notN]
    rw [if_pos h] at hl fin
    cases there with
    | none => exact fin rfl
    | some m =>
      rw [if_pos (show (!(some m : Option Int).isNone) = true from rfl)]
      exact ⟨by walk_at "sz", fun p H' _ k' t' => q _ _ hl p H' k' t'⟩
  · rw [decide_eq_false h]
    walk_at "sx"
    exact fin (if_neg h)


theorem Keep.pastL {H H1 H2 : Hp} {ps : List Addr} (k1 : Keep [] H H1) (k2 : Keep ps H1 H2) (n : ∀ p ∈ ps, H p = none) : Keep [] H H2 := fun b o _ e =>
  k2 b o (fun hb => by rw [n b hb] at e; cases e) (k1 b o nin0 e)
/-! ### places and steps -/
def plOf (T : Tn) (a : Nat) : Str := T.places.getD a ""
theorem pl_at {T : Tn} {a : Nat} (h : a < T.places.length) : (T.places.map V.str)[a]? = some (.str (plOf T a)) := by
  unfold plOf
  rw [List.getElem?_map, List.getD_eq_getElem?_getD, List.getElem?_eq_getElem h]
  rfl
theorem pl_pIx {T : Tn} {z : Str} (h : z ∈ T.places) : plOf T (pIx T.places z) = z := by
  unfold plOf
  rw [List.getD_eq_getElem?_getD, pIx_at h]
  rfl
/-- what a step says -/
structure StOk (T : Tn) (s : Stp) : Prop where
  k : s.k < T.roads.length
  a : s.a < T.places.length
  b : s.b < T.places.length
  go : led T s.k (plOf T s.a) = some (plOf T s.b, s.m)
theorem stepsAt_ok {T : Tn} {zs : List Int} {k : Nat} (ok : TnOk T) {s : Stp} (h : s ∈ stepsAt T zs k) : StOk T s := by
  unfold stepsAt at h
  cases e : T.roads[k]? with
  | none => rw [e] at h; cases h
  | some r =>
    rw [e] at h
    simp only at h
    split at h
    · cases h
    · have hk := (List.getElem?_eq_some_iff.mp e).1
      have ro := ok.rd _ (List.mem_of_getElem? e)
      rcases List.mem_append.mp h with h | h
      · unfold thereOf at h
        cases ht : r.there with
        | none => rw [ht] at h; cases h
        | some m =>
          rw [ht] at h
          obtain rfl := List.mem_singleton.mp h
          refine ⟨hk, pIx_lt ro.one, pIx_lt ro.two, ?_⟩
          unfold led
          simp only
          rw [pl_pIx ro.one, pl_pIx ro.two, e]
          simp [ht]
      · unfold backOf at h
        cases ht : r.back with
        | none => rw [ht] at h; cases h
        | some m =>
          rw [ht] at h
          obtain rfl := List.mem_singleton.mp h
          refine ⟨hk, pIx_lt ro.two, pIx_lt ro.one, ?_⟩
          unfold led
          simp only
          rw [pl_pIx ro.one, pl_pIx ro.two, e]
          simp [ht, ro.ne.symm]
theorem stepsTo_ok {T : Tn} {zs : List Int} {n : Nat} (ok : TnOk T) {s : Stp} (h : s ∈ stepsTo T zs n) : StOk T s := by
  unfold stepsTo at h
  obtain ⟨k, _, hk⟩ := List.mem_flatMap.mp h
  exact stepsAt_ok ok hk
theorem at_last {xs : List V} {v : V} {n : Nat} (l : xs.length = n) (h0 : 0 < n) (h : xs[n - 1]? = some v) : atI xs (-1) = some v := by
  unfold atI ixN
  rw [if_neg (by decide), if_pos (by omega)]
  show xs[((-1 : Int) + xs.length).toNat]? = _
  rw [show ((-1 : Int) + xs.length).toNat = n - 1 by omega]
  exact h
theorem dp_step {K : PySem.W.Frag} {H : Hp} {s : Stp} {p : Addr} (h : Tup H p (stV s)) : Dp K H (.ref p) (.tuple [.int (s.k : Nat), .int (s.a : Nat), .int (s.b : Nat), .int s.m]) :=
  .tup h.sq (.cons (.int _) (.cons (.int _) (.cons (.int _) (.cons (.int _) .nil))))
theorem dp_steps {K : PySem.W.Frag} {H : Hp} : ∀ {us : List V} {ss : List Stp}, Rws stV H us ss → ∃ ds, DpAll K H us ds ∧ ds.length = ss.length ∧ PyData.canLayAll0 ds = true ∧ PyData.depthAll ds ≤ 2
  | _, _, .nil => ⟨[], .nil, rfl, rfl, by simp [PyData.depthAll]⟩
  | _, _, .cons h q => by
    obtain ⟨ds, h1, h2, h3, h4⟩ := dp_steps (K := K) q
    refine ⟨_ :: ds, .cons (dp_step h) h1, by simp [h2], by simp [PyData.canLayAll0, PyData.canLay0, h3], ?_⟩
    simp [PyData.depthAll, PyData.depth] at *
    omega
theorem ne_nil {K : PySem.W.Frag} {H : Hp} {a b : Addr} {us : List V} {ss : List Stp} {Q : VK} (h : H a = some (.lst us)) (w : Rws stV H us ss) (e : H b = some (.lst [])) (q : Q (.bl (!decide (ss = []))) H) : uEq K true (.ref a) (.ref b) H Q := by
  obtain ⟨ds, h1, h2, h3, h4⟩ := dp_steps (K := K) w
  refine .inr ⟨_, _, .lst (lst_sq h) h1, .lst (lst_sq e) .nil, ?_, by decide +kernel, ?_⟩
  · unfold SeqAt.shaped
    rw [Bool.and_eq_true_iff]
    refine ⟨by simp [PyData.canLay0, h3], decide_eq_true ?_⟩
    simp [PyData.depth]
    omega
  · rw [if_pos rfl]
    cases ss with
    | nil =>
      cases ds with
      | nil => exact q
      | cons _ _ => simp at h2
    | cons s ss =>
      cases ds with
      | nil => simp at h2
      | cons _ _ => exact q
theorem cut_from {xs : List V} (n : Nat) : cutV xs (some (n : Int)) none = xs.drop n := by
  unfold cutV
  rw [HT.sIx_none, HT.sIx_nat, ← List.length_drop, List.take_length]
  by_cases h : n ≤ xs.length
  · rw [Nat.min_eq_left h]
  · rw [Nat.min_eq_right (by omega), List.drop_length, List.drop_eq_nil_of_le (by omega)]
theorem cut_upto {xs : List V} (n : Nat) : cutV xs none (some (n : Int)) = xs.take n := by
  unfold cutV
  rw [HT.sIx_none, HT.sIx_nat, List.drop_zero, Nat.sub_zero]
  by_cases h : n ≤ xs.length
  · rw [Nat.min_eq_left h]
  · rw [Nat.min_eq_right (by omega), List.take_length, List.take_of_length_le (by omega)]
theorem eq_pair {K : PySem.W.Frag} {H : Hp} {p q : Addr} {a b c d : Int} {Q : VK} (h1 : Tup H p [.int a, .int b]) (h2 : Tup H q [.int c, .int d]) (k : Q (.bl (decide (a = c ∧ b = d))) H) : uEq K false (.ref p) (.ref q) H Q := by
  refine .inr ⟨_, _, .tup h1.sq (.cons (.int _) (.cons (.int _) .nil)), .tup h2.sq (.cons (.int _) (.cons (.int _) .nil)), rfl, rfl, ?_⟩
  have e : PyData.eqv (.tuple [.int a, .int b]) (.tuple [.int c, .int d]) = decide (a = c ∧ b = d) := by
    simp only [PyData.eqv, PyData.eqvAll, Bool.and_true]
    by_cases h1 : a = c <;> by_cases h2 : b = d <;> simp [h1, h2]
  rw [if_neg (by decide), e]
  exact k
theorem dp_ints {K : PySem.W.Frag} {H : Hp} : ∀ (is : List Int), ∃ ds, DpAll K H (is.map V.int) ds ∧ ds.length = is.length ∧ PyData.canLayAll0 ds = true ∧ PyData.depthAll ds ≤ 0
  | [] => ⟨[], .nil, rfl, rfl, by simp [PyData.depthAll]⟩
  | i :: is => by
    obtain ⟨ds, h1, h2, h3, h4⟩ := dp_ints is
    refine ⟨_ :: ds, .cons (.int i) h1, by simp [h2], by simp [PyData.canLayAll0, PyData.canLay0, h3], ?_⟩
    simp [PyData.depthAll, PyData.depth] at *
    omega
theorem eq_nil {K : PySem.W.Frag} {H : Hp} {a b : Addr} {is : List Int} {Q : VK} (h : H a = some (.lst (is.map V.int))) (e : H b = some (.lst [])) (q : Q (.bl (decide (is = []))) H) : uEq K false (.ref a) (.ref b) H Q := by
  obtain ⟨ds, h1, h2, h3, h4⟩ := dp_ints (K := K) (H := H) is
  refine .inr ⟨_, _, .lst (lst_sq h) h1, .lst (lst_sq e) .nil, ?_, by decide +kernel, ?_⟩
  · unfold SeqAt.shaped
    rw [Bool.and_eq_true_iff]
    refine ⟨by simp [PyData.canLay0, h3], decide_eq_true ?_⟩
    simp [PyData.depth]
    omega
  · rw [if_neg (by decide)]
    cases is with
    | nil =>
      cases ds with
      | nil => exact q
      | cons _ _ => simp at h2
    | cons s ss =>
      cases ds with
      | nil => simp at h2
      | cons _ _ => exact q
def spShut : Sp := fun vs H Q _ => ∃ (t : Addr) (c : Int) (T : Tn), vs = [.int c, .ref t] ∧ TnAt H t T ∧ TnOk T ∧ ∀ p H' (zs : List Int), Keep [] H H' → Tup H' p (zs.map V.int) → zs.length ≤ 18 → Q (.ref p) H'
theorem rd_shut (K : PySem.W.Frag) : ∀ vs H Q E, spShut vs H Q E → run (t__law_shut K spRow) (L2.start N__law_shut vs) H Q := by
  rintro _ H Q _ ⟨t, c, T, rfl, hT, ok, q⟩
  show run (t__law_shut K spRow) [some (.int c), some (.ref t), none, none, none] H Q
  have r18 := ok.r18
  unfold t__law_shut
  walk_at "sx"
  refine ⟨c, 20, rfl, by decide, fun r H1 xs n1 k1 l1 hr => ?_⟩
  obtain ⟨hr, hx⟩ := hr
  obtain ⟨x18, e18, b18, c18⟩ := Row.get hx (i := 18) (by omega)
  walk_at "sx"
  refine ⟨⟨by decide, by decide, by decide⟩, by walk_at "sz", fun l H2 n2 k2 e2 => g_ixL (k2 _ _ nin0 hr) (at_lit 18 rfl e18) ?_⟩
  walk_at "sx"
  obtain ⟨v, hv, mv⟩ := mul_at (x := x18) [V.int (10 ^ (6 : Int).toNat + 1), V.int 5, V.int 2] 3 rfl (by decide)
  obtain ⟨sh, rfl, hsh⟩ : ∃ sh : Int, v = .int sh ∧ 0 < sh := by
    simp only [List.mem_cons, List.not_mem_nil, or_false] at mv
    rcases mv with rfl | rfl | rfl
    · exact ⟨_, rfl, by decide⟩
    · exact ⟨_, rfl, by decide⟩
    · exact ⟨_, rfl, by decide⟩
  refine ⟨by decide, g_ixL e2 hv ?_⟩
  have hT2 := hT.keep (k1.trans k2) noTup0
  obtain ⟨ap, ar, as, rv, g1, g2, g3, g4, g5⟩ := hT2
  refine g_ixT g1 (at_lit 1 rfl rfl) (g_lenT g3 ?_)
  rw [g4.len]
  have hr2 := k2 _ _ nin0 hr
  refine g_CR1 (S := []) (fun _ h => (List.not_mem_nil h).elim) (by omega) (by omega) ⟨fun i H' acc => ∃ zs : List Int, acc = zs.map V.int ∧ zs.length ≤ i, ?_, ?_, ?_⟩
  · intro D H3 _ _
    exact ⟨[], rfl, Nat.le_refl _⟩
  · rintro D i H3 acc R R0 nD hi k3 eD ⟨zs, rfl, hl⟩ hR hR0
    obtain ⟨xi, ei, bi, ci⟩ := Row.get hx (i := i) (by omega)
    walk_at "sx"
    refine g_ixL (k3 _ _ nin0 hr2) (at_lit i rfl ei) ?_
    walk_at "sx"
    refine ⟨hsh, g_eq rfl ?_⟩
    walk_at "sx"
    split
    · exact hR _ _ (Keep.refl _ _) (by rw [List.length_map]; exact len_lt (by omega)) fun H5 k5 => ⟨zs ++ [(i : Int)], by rw [List.map_append]; rfl, by rw [List.length_append]; exact Nat.add_le_add_right hl 1⟩
    · exact hR0 _ (Keep.refl _ _) ⟨zs, rfl, Nat.le_succ_of_le hl⟩
  · rintro D H3 acc nD k3 eD ⟨zs, rfl, hl⟩
    refine g_tupleL eD fun p H4 n4 k4 t4 => q p H4 zs (k1.trans (k2.trans (k3.trans k4))) t4 (by omega)
/-! ### least minutes -/
inductive Wl (sts : List Stp) (k : Nat) : Nat → Nat → Int → Prop
  | nil (h : Nat) : Wl sts k h h 0
  | one {s : Stp} : s ∈ sts → Wl sts k s.a s.b s.m
  | cons {s : Stp} {g : Nat} {L : Int} : s ∈ sts → s.b < k → Wl sts k s.b g L → Wl sts k s.a g (s.m + L)
theorem Wl.pos {sts : List Stp} (hm : ∀ s ∈ sts, 1 ≤ s.m) {k h g : Nat} {L : Int} (w : Wl sts k h g L) : 0 ≤ L := by
  induction w with
  | nil => omega
  | one hs => have := hm _ hs; omega
  | cons hs _ _ ih => have := hm _ hs; omega
theorem Wl.split {sts : List Stp} (hm : ∀ s ∈ sts, 1 ≤ s.m) {k h g : Nat} {L : Int} (w : Wl sts (k + 1) h g L) : (∃ L', L' ≤ L ∧ Wl sts k h g L') ∨ ∃ A B, A + B ≤ L ∧ Wl sts k h k A ∧ Wl sts k k g B := by
  induction w with
  | nil h => exact .inl ⟨0, Int.le_refl _, .nil h⟩
  | one hs => exact .inl ⟨_, Int.le_refl _, .one hs⟩
  | @cons s g L hs hb w ih =>
    rcases ih with ⟨L', l, w'⟩ | ⟨A, B, l, wa, wb⟩
    · by_cases hk : s.b < k
      · exact .inl ⟨s.m + L', by omega, .cons hs hk w'⟩
      · have e : s.b = k := by omega
        rw [e] at w'
        refine .inr ⟨s.m, L', by omega, ?_, w'⟩
        have := Wl.one (k := k) hs
        rwa [e] at this
    · by_cases hk : s.b < k
      · exact .inr ⟨s.m + A, B, by omega, .cons hs hk wa, wb⟩
      · have e : s.b = k := by omega
        have p := wa.pos hm
        refine .inr ⟨s.m, B, by omega, ?_, wb⟩
        have := Wl.one (k := k) hs
        rwa [e] at this
theorem Wl.app {sts : List Stp} {n h m g : Nat} {A B : Int} (hm : m < n) (w : Wl sts n h m A) : Wl sts n m g B → Wl sts n h g (A + B) := by
  induction w with
  | nil h => intro w2; rw [Int.zero_add]; exact w2
  | one hs => intro w2; exact .cons hs hm w2
  | cons hs hb w ih => intro w2; rw [Int.add_assoc]; exact .cons hs hb (ih hm w2)
abbrev Tab := Nat → Nat → Option Int
def Low (sts : List Stp) (n k : Nat) (D : Tab) : Prop := ∀ h g L, h < n → g < n → Wl sts k h g L → ∃ d, D g h = some d ∧ d ≤ L
def Snd (sts : List Stp) (n : Nat) (D : Tab) : Prop := ∀ g h d, D g h = some d → Wl sts n h g d
def Tle (D D0 : Tab) : Prop := ∀ g h d, D0 g h = some d → ∃ d', D g h = some d' ∧ d' ≤ d
theorem Tle.refl (D : Tab) : Tle D D := fun g h d e => ⟨d, e, Int.le_refl _⟩
theorem Tle.trans {D D1 D2 : Tab} (a : Tle D D1) (b : Tle D1 D2) : Tle D D2 := fun g h d e => by
  obtain ⟨d1, e1, l1⟩ := b g h d e
  obtain ⟨d2, e2, l2⟩ := a g h d1 e1
  exact ⟨d2, e2, Int.le_trans l2 l1⟩
def put (D : Tab) (g h : Nat) (v : Int) : Tab := fun g' h' => if g' = g ∧ h' = h then some v else D g' h'
theorem put_same {D : Tab} {g h : Nat} {v : Int} : put D g h v g h = some v := if_pos ⟨rfl, rfl⟩
theorem put_le {D : Tab} {g h : Nat} {v : Int} (hv : ∀ d, D g h = some d → v ≤ d) : Tle (put D g h v) D := fun g' h' d e => by
  by_cases hq : g' = g ∧ h' = h
  · obtain ⟨rfl, rfl⟩ := hq
    exact ⟨v, put_same, hv d e⟩
  · exact ⟨d, (if_neg hq).trans e, Int.le_refl _⟩
theorem put_snd {sts : List Stp} {n : Nat} {D : Tab} {g h : Nat} {v : Int} (s : Snd sts n D) (w : Wl sts n h g v) : Snd sts n (put D g h v) := fun g' h' d e => by
  by_cases hq : g' = g ∧ h' = h
  · obtain ⟨rfl, rfl⟩ := hq
    rw [put_same] at e
    cases e
    exact w
  · exact s g' h' d (by rwa [put, if_neg hq] at e)
/-- what is reached by the middle m for the pairs told -/
def Mid (D0 : Tab) (m : Nat) (dn : Nat → Nat → Prop) (D : Tab) : Prop := ∀ g h, dn g h → ∀ A B, D0 m h = some A → D0 g m = some B → ∃ d, D g h = some d ∧ d ≤ A + B
theorem Mid.le {D0 D D' : Tab} {m : Nat} {dn : Nat → Nat → Prop} (a : Mid D0 m dn D) (l : Tle D' D) : Mid D0 m dn D' := fun g h q A B ea eb => by
  obtain ⟨d, e, hd⟩ := a g h q A B ea eb
  obtain ⟨d', e', hd'⟩ := l g h d e
  exact ⟨d', e', Int.le_trans hd' hd⟩
theorem low_next {sts : List Stp} {n m : Nat} {D0 D : Tab} (hm : ∀ s ∈ sts, 1 ≤ s.m) (hmn : m < n) (lo : Low sts n m D0) (l : Tle D D0) (md : Mid D0 m (fun g h => g < n ∧ h < n) D) : Low sts n (m + 1) D := fun h g L hh hg w => by
  rcases w.split hm with ⟨L', l', w'⟩ | ⟨A, B, l', wa, wb⟩
  · obtain ⟨d, e, hd⟩ := lo h g L' hh hg w'
    obtain ⟨d', e', hd'⟩ := l g h d e
    exact ⟨d', e', by omega⟩
  · obtain ⟨a, ea, ha⟩ := lo h m A hh hmn wa
    obtain ⟨b, eb, hb⟩ := lo m g B hmn hg wb
    obtain ⟨d, e, hd⟩ := md g h ⟨hg, hh⟩ a b ea eb
    exact ⟨d, e, by omega⟩
/-- what the whole chart says -/
structure Cht (sts : List Stp) (n : Nat) (D : Tab) : Prop where
  d0 : ∀ g, g < n → D g g = some 0
  pos : ∀ g h d, D g h = some d → 0 ≤ d
  step : ∀ g h d, g < n → h < n → h ≠ g → D g h = some d → ∃ s ∈ sts, s.a = h ∧ ∃ e, D g s.b = some e ∧ d = e + s.m
  lo : Low sts n n D
  sn : Snd sts n D
theorem cht_of {sts : List Stp} {n : Nat} {D : Tab} (hm : ∀ s ∈ sts, 1 ≤ s.m) (hb : ∀ s ∈ sts, s.b < n) (lo : Low sts n n D) (sn : Snd sts n D) : Cht sts n D := by
  have pos : ∀ g h d, D g h = some d → 0 ≤ d := fun g h d e => (sn g h d e).pos hm
  have d0 : ∀ g, g < n → D g g = some 0 := fun g hg => by
    obtain ⟨d, e, hd⟩ := lo g g 0 hg hg (.nil g)
    have := pos g g d e
    rw [e, show d = 0 by omega]
  refine ⟨d0, pos, fun g h d hg hh hne e => ?_, lo, sn⟩
  have w := sn g h d e
  cases w with
  | nil => exact absurd rfl hne
  | @one s hs => exact ⟨s, hs, rfl, 0, d0 _ hg, by omega⟩
  | @cons s _ L hs hb' w =>
    obtain ⟨e', he, le⟩ := lo s.b g L hb' hg w
    obtain ⟨d', hd', ld⟩ := lo s.a g (s.m + e') hh hg (.cons hs hb' (sn g s.b e' he))
    rw [e] at hd'
    cases hd'
    exact ⟨s, hs, rfl, e', he, by omega⟩
/-! ### a table of rows -/
def rowV (n : Nat) (f : Nat → Option Int) : List V := (List.range n).map fun h => mV (f h)
theorem rowV_at {n : Nat} {f : Nat → Option Int} {h : Nat} (hh : h < n) : (rowV n f)[h]? = some (mV (f h)) := by
  unfold rowV
  rw [List.getElem?_map, List.getElem?_range hh]
  rfl
theorem rowV_len {n : Nat} {f : Nat → Option Int} : (rowV n f).length = n := by unfold rowV; rw [List.length_map, List.length_range]
theorem rowV_set {n : Nat} {D : Tab} {g h : Nat} {v : Int} (hh : h < n) : (rowV n (D g)).set h (.int v) = rowV n (put D g h v g) := by
  refine List.ext_getElem? fun i => ?_
  by_cases hi : i < n
  · rw [rowV_at hi]
    by_cases e : i = h
    · subst e
      rw [List.getElem?_set_self (by rw [rowV_len]; exact hi), put_same]
      rfl
    · rw [List.getElem?_set_ne (fun z => e z.symm), rowV_at hi]
      unfold put
      rw [if_neg fun z => e z.2]
  · rw [List.getElem?_eq_none (by rw [List.length_set, rowV_len]; omega), List.getElem?_eq_none (by rw [rowV_len]; omega)]
theorem rowV_other {n : Nat} {D : Tab} {g g' h : Nat} {v : Int} (e : g' ≠ g) : rowV n (put D g h v g') = rowV n (D g') := by
  unfold rowV
  refine List.map_congr_left fun i _ => ?_
  unfold put
  rw [if_neg fun z => e z.1]
structure TabAt (H0 H : Hp) (rl : Addr) (m n : Nat) (D : Tab) (ps : List Addr) : Prop where
  l : ps.length = m
  nd : ps.Nodup
  out : rl ∉ ps
  fr : ∀ p ∈ ps, H0 p = none
  lst : H rl = some (.lst (ps.map V.ref))
  row : ∀ g p, ps[g]? = some p → H p = some (.lst (rowV n (D g)))
section
variable {K : PySem.W.Frag} {H0 H : Hp} {rl : Addr} {m n : Nat} {D : Tab} {ps : List Addr} {Q : VK} {g h : Nat}
theorem TabAt.keep {H' : Hp} {S : List Addr} (t : TabAt H0 H rl m n D ps) (k : Keep S H H') (n1 : rl ∉ S) (n2 : ∀ p ∈ ps, p ∉ S) : TabAt H0 H' rl m n D ps :=
  ⟨t.l, t.nd, t.out, t.fr, k _ _ n1 t.lst, fun g p e => k _ _ (n2 p (List.mem_of_getElem? e)) (t.row g p e)⟩
theorem tab_get (t : TabAt H0 H rl m n D ps) (hg : g < m) (hh : h < n) (q : Q (mV (D g h)) H) : uIx K (.ref rl) (.int (g : Nat)) H fun x H1 => uIx K x (.int (h : Nat)) H1 Q := by
  have hg' : g < ps.length := by rw [t.l]; exact hg
  have e := List.getElem?_eq_getElem hg'
  exact g_ixL t.lst (at_lit g rfl (by rw [List.getElem?_map, e]; rfl)) (g_ixL (t.row g _ e) (at_lit h rfl (rowV_at hh)) q)
theorem tab_set {v : Int} {R : Hp → Prop} (t : TabAt H0 H rl m n D ps) (hg : g < m) (hh : h < n) (q : ∀ H', Keep ps H H' → TabAt H0 H' rl m n (put D g h v) ps → R H') : uIx K (.ref rl) (.int (g : Nat)) H fun o H1 => uSetL o (.int (h : Nat)) (.int v) H1 R := by
  have hg' : g < ps.length := by rw [t.l]; exact hg
  have e := List.getElem?_eq_getElem hg'
  have hm := List.getElem_mem hg'
  have hix : ixN (rowV n (D g)).length (h : Int) = some h := by
    unfold ixN
    rw [if_pos (by omega), rowV_len, if_pos (by omega)]
    rfl
  refine g_ixL t.lst (at_lit g rfl (by rw [List.getElem?_map, e]; rfl)) (g_setL (t.row g _ e) hix fun H' k e' => q H' (k.wide fun b hb => by rw [List.mem_singleton.mp hb]; exact hm) ⟨t.l, t.nd, t.out, t.fr, k _ _ (nin1 fun z => t.out (z ▸ hm)) t.lst, fun g' p ep => ?_⟩)
  by_cases eg : g' = g
  · subst eg
    rw [e] at ep
    cases ep
    rw [e', rowV_set hh]
  · have hne : p ≠ ps[g] := fun z => by
      obtain ⟨h1, h2⟩ := List.getElem?_eq_some_iff.mp ep
      exact eg ((List.getElem_inj t.nd).mp (h2.trans z))
    rw [k _ _ (nin1 hne) (t.row g' p ep), rowV_other eg]
end
def ChAt (H : Hp) (c : Addr) (n : Nat) (D : Tab) : Prop := ∃ vs, Tup H c vs ∧ vs.length = n ∧ ∀ g, g < n → ∃ p, vs[g]? = some (.ref p) ∧ Tup H p (rowV n (D g))
theorem ChAt.keep {H H' : Hp} {c : Addr} {n : Nat} {D : Tab} (h : ChAt H c n D) (k : Keep [] H H') : ChAt H' c n D := by
  obtain ⟨vs, h1, h2, h3⟩ := h
  refine ⟨vs, h1.keep k nin0, h2, fun g hg => ?_⟩
  obtain ⟨p, e, t⟩ := h3 g hg
  exact ⟨p, e, t.keep k nin0⟩
theorem ch_get {K : PySem.W.Frag} {H : Hp} {c : Addr} {n g h : Nat} {D : Tab} {Q : VK} (t : ChAt H c n D) (hg : g < n) (hh : h < n) (q : Q (mV (D g h)) H) : uIx K (.ref c) (.int (g : Nat)) H fun x H1 => uIx K x (.int (h : Nat)) H1 Q := by
  obtain ⟨vs, h1, h2, h3⟩ := t
  obtain ⟨p, e, t⟩ := h3 g hg
  exact g_ixT h1 (at_lit g rfl e) (g_ixT t (at_lit h rfl (rowV_at hh)) q)
def spChart : Sp := fun vs H Q _ => ∃ (t sh : Addr) (T : Tn) (zs : List Int), vs = [.ref t, .ref sh] ∧ TnAt H t T ∧ TnOk T ∧ Tup H sh (zs.map V.int) ∧
  ∀ c H' D, Keep [] H H' → ChAt H' c T.places.length D → Cht (stepsTo T zs T.roads.length) T.places.length D → Q (.ref c) H'
def tab0 : Tab := fun g h => if h = g then some 0 else none
theorem steps_pos {T : Tn} {zs : List Int} {n : Nat} (ok : TnOk T) : ∀ s ∈ stepsTo T zs n, 1 ≤ s.m := fun s hs => by
  obtain ⟨k, _, hk⟩ := List.mem_flatMap.mp hs
  unfold stepsAt at hk
  cases e : T.roads[k]? with
  | none => rw [e] at hk; cases hk
  | some r =>
    rw [e] at hk
    have ro := ok.rd _ (List.mem_of_getElem? e)
    simp only at hk
    split at hk
    · cases hk
    · rcases List.mem_append.mp hk with h | h
      · unfold thereOf at h
        cases ht : r.there with
        | none => rw [ht] at h; cases h
        | some m =>
          rw [ht] at h
          rw [List.mem_singleton.mp h]
          exact (ro.there m ht).1
      · unfold backOf at h
        cases ht : r.back with
        | none => rw [ht] at h; cases h
        | some m =>
          rw [ht] at h
          rw [List.mem_singleton.mp h]
          exact (ro.back m ht).1


theorem ch_end (K : PySem.W.Frag) {E : Ends} {t sh rl : Addr} {n : Nat} {y4 y5 y6 y7 y8 y9 y10 y11 : Option V} {H0 H : Hp} {D : Tab} {ps : List Addr} (hn : n ≤ 10) (tb : TabAt H0 H rl n n D ps) (q : ∀ c H', Keep [] H H' → ChAt H' c n D → E.rt (.ref c) H') :
    t__law_chart_r1 K spSteps E [some (.ref t), some (.ref sh), some (.int (n : Nat)), some (.ref rl), y4, y5, y6, y7, y8, y9, y10, y11] H := by
  unfold t__law_chart_r1
  walk_at "sx"
  refine g_CL (S := []) (fun _ h => (List.not_mem_nil h).elim) tb.lst nin0 ⟨fun j H' acc => acc.length = j ∧ ∀ g, g < j → ∃ p, acc[g]? = some (.ref p) ∧ Tup H' p (rowV n (D g)), fun _ _ _ _ => ⟨rfl, fun g hg => by omega⟩, ?_, ?_⟩
  · rintro L j H2 acc R R0 nL hj k2 eL ⟨la, oa⟩ hR hR0
    rw [List.length_map] at hj
    have e := List.getElem?_eq_getElem hj
    have hgd : (ps.map V.ref).getD j .non = .ref ps[j] := by rw [List.getD_eq_getElem?_getD, List.getElem?_map, e]; rfl
    have hrow := k2 _ _ nin0 (tb.row j _ e)
    have hl := tb.l
    show gName 11 ((ps.map V.ref).getD j .non) _ _ _
    rw [hgd]
    walk_at "sx"
    refine g_tupleL hrow fun p H3 n3 k3 t3 => hR _ _ k3 (len_lt (by omega)) fun H5 k5 => ⟨by rw [List.length_append, la]; rfl, fun g hg => ?_⟩
    have eL3 := k3 _ _ nin0 eL
    by_cases h : g < j
    · obtain ⟨p', e', t'⟩ := oa g h
      exact ⟨p', by rw [List.getElem?_append_left (by omega)]; exact e', (t'.keep k3 nin0).keep k5 (nin1 ((t'.keep k3 nin0).neL eL3))⟩
    · have hgj : g = j := by omega
      subst hgj
      exact ⟨p, by rw [List.getElem?_append_right (by omega), la, Nat.sub_self]; rfl, t3.keep k5 (nin1 (t3.neL eL3))⟩
  · rintro L H2 acc nL k2 eL ⟨la, oa⟩
    rw [List.length_map, tb.l] at la oa
    refine g_tupleL eL fun c H3 n3 k3 t3 => q c H3 (k2.trans k3) ⟨acc, t3, la, fun g hg => ?_⟩
    obtain ⟨p, e, t'⟩ := oa g hg
    exact ⟨p, e, t'.keep k3 nin0⟩
theorem mid_put {D0 D : Tab} {sts : List Stp} {m g h n : Nat} {a b : Int} (sn : Snd sts n D) (hm : m < n) (ea : D m h = some a) (eb : D g m = some b) (hv : ∀ d, D g h = some d → a + b ≤ d) : Tle (put D g h (a + b)) D ∧ Snd sts n (put D g h (a + b)) :=
  ⟨put_le hv, put_snd sn (Wl.app hm (sn _ _ _ ea) (sn _ _ _ eb))⟩
theorem ch_three (K : PySem.W.Frag) {E : Ends} {t sh rl : Addr} {n : Nat} {y4 y5 y6 y7 y8 y9 y10 y11 : Option V} {H0 H : Hp} {D : Tab} {ps : List Addr} {sts : List Stp} (hn : n ≤ 10) (hp : ∀ s ∈ sts, 1 ≤ s.m) (hb : ∀ s ∈ sts, s.b < n) (tb : TabAt H0 H rl n n D ps) (lo : Low sts n 0 D) (sn : Snd sts n D)
    (q : ∀ c H' D, Keep ps H H' → ChAt H' c n D → Cht sts n D → E.rt (.ref c) H') :
    t__law_chart_r2 K spSteps E [some (.ref t), some (.ref sh), some (.int (n : Nat)), some (.ref rl), y4, y5, y6, y7, y8, y9, y10, y11] H := by
  unfold t__law_chart_r2
  walk_at "sx"
  refine g_FR1 (by omega) (by omega) ⟨fun m σ H' => ∃ D y4 y5 y9 y10, σ = [some (.ref t), some (.ref sh), some (.int (n : Nat)), some (.ref rl), y4, y5, y6, y7, y8, y9, y10, y11] ∧ Keep ps H H' ∧ TabAt H0 H' rl n n D ps ∧ Low sts n m D ∧ Snd sts n D, ⟨D, _, _, _, _, rfl, Keep.refl _ _, tb, lo, sn⟩, ?_, ?_⟩
  · rintro m σ H1 hm ⟨D1, z4, z5, z9, z10, rfl, k1, tb1, lo1, sn1⟩
    have hm' : m < n := by omega
    unfold t__law_chart_b5
    walk_at "sx"
    refine g_FR1 (by omega) (by omega) ⟨fun g σ H' => ∃ D y4 y5 y10, σ = [some (.ref t), some (.ref sh), some (.int (n : Nat)), some (.ref rl), y4, y5, y6, y7, y8, some (.int (m : Nat)), y10, y11] ∧ Keep ps H H' ∧ TabAt H0 H' rl n n D ps ∧ Tle D D1 ∧ Snd sts n D ∧ Mid D1 m (fun g' h' => g' < g ∧ h' < n) D, ⟨D1, _, _, _, rfl, k1, tb1, Tle.refl _, sn1, fun g h q => by omega⟩, ?_, ?_⟩
    · rintro g σ H2 hg ⟨D2, z4, z5, z10, rfl, k2, tb2, le2, sn2, md2⟩
      have hg' : g < n := by omega
      unfold t__law_chart_b4
      walk_at "sx"
      refine g_FR1 (by omega) (by omega) ⟨fun h σ H' => ∃ D y5 y10, σ = [some (.ref t), some (.ref sh), some (.int (n : Nat)), some (.ref rl), some (.int (g : Nat)), y5, y6, y7, y8, some (.int (m : Nat)), y10, y11] ∧ Keep ps H H' ∧ TabAt H0 H' rl n n D ps ∧ Tle D D1 ∧ Snd sts n D ∧ Mid D1 m (fun g' h' => (g' < g ∧ h' < n) ∨ (g' = g ∧ h' < h)) D,
        ⟨D2, _, _, rfl, k2, tb2, le2, sn2, fun g' h' q => md2 g' h' (by omega)⟩, ?_, ?_⟩
      · rintro h σ H3 hh ⟨D3, z5, z10, rfl, k3, tb3, le3, sn3, md3⟩
        have hh' : h < n := by omega
        have done : ∀ D', Tle D' D3 → (∀ A B, D1 m h = some A → D1 g m = some B → ∃ d, D' g h = some d ∧ d ≤ A + B) → Mid D1 m (fun g' h' => (g' < g ∧ h' < n) ∨ (g' = g ∧ h' < h + 1)) D' := fun D' l last g' h' q A B ea eb => by
          by_cases e : g' = g ∧ h' = h
          · obtain ⟨rfl, rfl⟩ := e
            exact last A B ea eb
          · exact (md3.le l) g' h' (by omega) A B ea eb
        unfold t__law_chart_b3
        walk_at "sx"
        refine tab_get tb3 hm' hh' ?_
        walk_at "sx"
        rw [notN]
        cases ea : D3 m h with
        | none =>
          walk_at "sx"
          refine ⟨D3, _, _, rfl, k3, tb3, le3, sn3, done D3 (Tle.refl _) fun A B eA _ => ?_⟩
          obtain ⟨d, e, _⟩ := le3 m h A eA
          rw [ea] at e
          cases e
        | some a =>
          rw [if_pos (show (!(some a : Option Int).isNone) = true from rfl)]
          refine tab_get tb3 hg' hm' ?_
          walk_at "sx"
          rw [notN]
          cases eb : D3 g m with
          | none =>
            walk_at "sx"
            refine ⟨D3, _, _, rfl, k3, tb3, le3, sn3, done D3 (Tle.refl _) fun A B _ eB => ?_⟩
            obtain ⟨d, e, _⟩ := le3 g m B eB
            rw [eb] at e
            cases e
          | some b =>
            rw [if_pos (show (!(some b : Option Int).isNone) = true from rfl)]
            refine tab_get tb3 hm' hh' ?_
            rw [ea]
            refine tab_get tb3 hg' hm' ?_
            rw [eb]
            have tot : ∀ A B, D1 m h = some A → D1 g m = some B → a + b ≤ A + B := fun A B eA eB => by
              obtain ⟨d, e, l⟩ := le3 m h A eA
              rw [ea] at e
              cases e
              obtain ⟨d, e, l'⟩ := le3 g m B eB
              rw [eb] at e
              cases e
              omega
            have wr : (∀ d, D3 g h = some d → a + b ≤ d) → ∀ z5 z10, uIx K (.ref rl) (.int (g : Nat)) H3 fun o H1 => uSetL o (.int (h : Nat)) (.int (a + b)) H1 fun H' => ∃ D y5 y10, [some (.ref t), some (.ref sh), some (.int (n : Nat)), some (.ref rl), some (.int (g : Nat)), z5, y6, y7, y8, some (.int (m : Nat)), z10, y11] =
                [some (.ref t), some (.ref sh), some (.int (n : Nat)), some (.ref rl), some (.int (g : Nat)), y5, y6, y7, y8, some (.int (m : Nat)), y10, y11] ∧ Keep ps H H' ∧ TabAt H0 H' rl n n D ps ∧ Tle D D1 ∧ Snd sts n D ∧ Mid D1 m (fun g' h' => (g' < g ∧ h' < n) ∨ (g' = g ∧ h' < h + 1)) D := fun hv z5 z10 => by
              obtain ⟨l, s⟩ := mid_put (D0 := D1) sn3 hm' ea eb hv
              exact tab_set tb3 hg' hh' fun H4 k4 tb4 => ⟨_, _, _, rfl, k3.trans k4, tb4, l.trans le3, s, done _ l fun A B eA eB => ⟨_, put_same, tot A B eA eB⟩⟩
            show uAdd K (.int a) (.int b) _ _
            walk_at "sx"
            refine tab_get tb3 hg' hh' ?_
            cases ec : D3 g h with
            | none =>
              walk_at "sx"
              rw [if_pos (show mV none = V.non from rfl)]
              exact wr (fun d e => by rw [ec] at e; cases e) _ _
            | some c =>
              rw [if_neg (show ¬ mV (some c) = V.non from fun e => nomatch e)]
              refine tab_get tb3 hg' hh' ?_
              rw [ec]
              show rI0 _ (.int c) (.int (a + b)) _ _
              walk_at "sx"
              split
              · rename_i hlt
                exact wr (fun d e => by rw [ec] at e; cases e; omega) _ _
              · rename_i hlt
                exact ⟨D3, _, _, rfl, k3, tb3, le3, sn3, done D3 (Tle.refl _) fun A B eA eB => ⟨c, ec, by have := tot A B eA eB; omega⟩⟩
      · rintro σ H3 ⟨D3, z5, z10, rfl, k3, tb3, le3, sn3, md3⟩
        exact ⟨D3, _, _, _, rfl, k3, tb3, le3, sn3, fun g' h' q => md3 g' h' (by omega)⟩
    · rintro σ H2 ⟨D2, z4, z5, z10, rfl, k2, tb2, le2, sn2, md2⟩
      exact ⟨D2, _, _, _, _, rfl, k2, tb2, low_next hp hm' lo1 le2 fun g' h' q => md2 g' h' (by omega), sn2⟩
  · rintro σ H1 ⟨D1, z4, z5, z9, z10, rfl, k1, tb1, lo1, sn1⟩
    rw [Int.toNat_natCast] at lo1
    exact ch_end K hn tb1 fun c H' k' ch => q c H' D1 (k1.trans k'.all) ch (cht_of hp hb lo1 sn1)
theorem rowV_succ {j : Nat} {f : Nat → Option Int} : rowV (j + 1) f = rowV j f ++ [mV (f j)] := by
  unfold rowV
  rw [List.range_succ, List.map_append]
  rfl
theorem tab_more {H0 H H' : Hp} {rl L : Addr} {m n : Nat} {D : Tab} {ps : List Addr} (t : TabAt H0 H rl m n D ps) (k : Keep [rl] H H') (eL : H L = some (.lst (rowV n (D m)))) (fL : H0 L = none) (oL : L ∉ ps) (rL : rl ≠ L) (e : H' rl = some (.lst (ps.map V.ref ++ [.ref L]))) :
    TabAt H0 H' rl (m + 1) n D (ps ++ [L]) := by
  refine ⟨by rw [List.length_append, t.l]; rfl, ?_, ?_, fun p hp => ?_, by rw [List.map_append]; exact e, fun g p ep => ?_⟩
  · rw [List.nodup_append]
    exact ⟨t.nd, by simp, fun a ha b hb z => oL (by rw [← List.mem_singleton.mp hb, ← z]; exact ha)⟩
  · intro h
    rcases List.mem_append.mp h with h | h
    · exact t.out h
    · exact rL (List.mem_singleton.mp h)
  · rcases List.mem_append.mp hp with h | h
    · exact t.fr p h
    · rw [List.mem_singleton.mp h]; exact fL
  · by_cases h : g < ps.length
    · rw [List.getElem?_append_left h] at ep
      exact k _ _ (nin1 fun z => t.out (z ▸ List.mem_of_getElem? ep)) (t.row g p ep)
    · rw [List.getElem?_append_right (by omega)] at ep
      have hg := (List.getElem?_eq_some_iff.mp ep).1
      rw [List.length_singleton] at hg
      have e0 : g - ps.length = 0 := by omega
      rw [e0] at ep
      cases ep
      rw [show g = m by have := t.l; omega]
      exact k _ _ (nin1 (Ne.symm rL)) eL
theorem rd_chart (K : PySem.W.Frag) : ∀ vs H Q E, spChart vs H Q E → run (t__law_chart K spSteps) (L2.start N__law_chart vs) H Q := by
  rintro _ H Q _ ⟨t, sh, T, zs, rfl, hT, ok, hz, q⟩
  have p10 := ok.p10
  have r18 := ok.r18
  have hT0 := hT
  obtain ⟨ap, ar, as, rv, g1, g2, g3, g4, g5⟩ := hT
  show run (t__law_chart K spSteps) [some (.ref t), some (.ref sh), none, none, none, none, none, none, none, none, none, none] H Q
  unfold t__law_chart
  walk_at "sx"
  refine g_ixT g1 (at_lit 0 rfl rfl) (g_lenT g2 ⟨by walk_at "sz", fun rl H1 n1 k1 e1 => ?_⟩)
  rw [List.length_map]
  generalize hnn : T.places.length = n at q p10
  walk_at "sx"
  refine g_FR1 (by omega) (by omega) ⟨fun i σ H' => ∃ y4 y5 ps, σ = [some (.ref t), some (.ref sh), some (.int (n : Nat)), some (.ref rl), y4, y5, none, none, none, none, none, none] ∧ Keep [rl] H1 H' ∧ TabAt H H' rl i n tab0 ps,
    ⟨_, _, [], rfl, Keep.refl _ _, ⟨rfl, by simp, by simp, by simp, e1, by simp⟩⟩, ?_, ?_⟩
  · rintro i σ H2 hi ⟨y4, y5, ps, rfl, k2, tb⟩
    have kz : Keep [] H H2 := k1.past k2 n1
    have hlps := tb.l
    unfold t__law_chart_b1
    walk_at "sx"
    refine ⟨.inl ⟨rfl, _, .inl (.inl tb.lst)⟩, ?_⟩
    refine g_CR1 (S := []) (fun _ h => (List.not_mem_nil h).elim) (by omega) (by omega) ⟨fun j H' acc => acc = rowV j (tab0 i), fun _ _ _ _ => rfl, ?_, ?_⟩
    · rintro L j H3 acc R R0 nL hj k3 eL rfl hR hR0
      walk_at "sx"
      refine ⟨by walk_at "sz", fun l3 H4 n4 k4 e4 => g_eq rfl ?_⟩
      walk_at "sx"
      have hv : atI [V.non, V.int 0] (if j = i then 1 else 0) = some (mV (tab0 i j)) := by
        unfold tab0
        by_cases h : j = i
        · rw [if_pos h, if_pos h]; rfl
        · rw [if_neg h, if_neg h]; rfl
      have hv' : atI [V.non, V.int 0] (if (j : Int) = (i : Int) then 1 else 0) = some (mV (tab0 i j)) := by
        rw [← hv]
        congr 1
        by_cases h : j = i
        · rw [if_pos h, if_pos (by omega)]
        · rw [if_neg h, if_neg (by omega)]
      refine g_ixL e4 hv' (hR _ _ k4 (by rw [rowV_len]; exact len_lt (by omega)) fun H5 k5 => rowV_succ.symm)
    · rintro L H3 acc nL k3 eL rfl
      have e3 := k3 _ _ nin0 tb.lst
      refine g_append e3 (by rw [List.length_map, hlps]; exact len_lt (by omega)) fun H4 k4 e4 => ?_
      rw [Int.toNat_natCast] at eL
      refine ⟨_, _, ps ++ [L], rfl, k2.trans (k3.all.trans k4), tab_more (tb.keep k3 nin0 fun _ _ => nin0) k4 eL (kz.free nin0 nL) (fun hL => ?_) (ne_of_none tb.lst nL) e4⟩
      obtain ⟨g, hg, hgL⟩ := List.getElem_of_mem hL
      have := tb.row g L (by rw [List.getElem?_eq_getElem hg, hgL])
      rw [nL] at this
      cases this
  · rintro σ H2 ⟨y4, y5, ps, rfl, k2, tb⟩
    rw [Int.toNat_natCast] at tb
    have kz : Keep [] H H2 := k1.past k2 n1
    unfold t__law_chart_r3
    walk_at "sx"
    refine ⟨t, sh, T, zs, rfl, hT0.keep kz noTup0, ok, hz.keep kz nin0, fun st H3 us n3 k3 e3 w3 => ?_⟩
    have tb3 := tb.keep k3 nin0 fun _ _ => nin0
    have hpos := steps_pos (zs := zs) (n := T.roads.length) ok
    have hso : ∀ s ∈ stepsTo T zs T.roads.length, s.a < n ∧ s.b < n := fun s hs => by
      have := stepsTo_ok ok hs
      rw [← hnn]
      exact ⟨this.a, this.b⟩
    generalize stepsTo T zs T.roads.length = sts at q w3 hpos hso
    have hst : ∀ p ∈ ps, p ≠ st := fun p hp z => by
      obtain ⟨g, hg, hgL⟩ := List.getElem_of_mem hp
      have := tb.row g p (by rw [List.getElem?_eq_getElem hg, hgL])
      rw [z, n3] at this
      cases this
    have hst' : st ∉ ps := fun h => hst st h rfl
    have ntp : ∀ H', TabAt H H' rl n n tab0 ps ∨ (∃ D, TabAt H H' rl n n D ps) → NoTup ps H' := fun H' h a xs ta ha => by
      obtain ⟨D, tD⟩ : ∃ D, TabAt H H' rl n n D ps := h.elim (fun h => ⟨_, h⟩) id
      obtain ⟨g, hg, hgL⟩ := List.getElem_of_mem ha
      exact ta.neL (tD.row g a (by rw [List.getElem?_eq_getElem hg, hgL])) rfl
    refine g_FL (fun j σ H' => ∃ D y5 y6 y7 y8, σ = [some (.ref t), some (.ref sh), some (.int (n : Nat)), some (.ref rl), y4, y5, y6, y7, y8, none, none, none] ∧ Keep ps H3 H' ∧ TabAt H H' rl n n D ps ∧ Snd sts n D ∧ (∀ g, g < n → ∃ d, D g g = some d ∧ d ≤ 0) ∧ ∀ s ∈ sts.take j, ∃ d, D s.b s.a = some d ∧ d ≤ s.m)
      (lst_sq e3) ⟨tab0, _, _, _, _, rfl, Keep.refl _ _, tb3, fun g h d e => ?_, fun g hg => ⟨0, if_pos rfl, Int.le_refl _⟩, fun s hs => by simp at hs⟩ ?_ ?_ ?_
    · unfold tab0 at e
      split at e
      · rename_i h'
        cases e
        rw [h']
        exact .nil _
      · cases e
    · rintro j σ H' _ ⟨D, _, _, _, _, _, k', _⟩
      exact lst_sq (k' _ _ hst' e3)
    · rintro j x σ H4 hx ⟨D, y5, y6, y7, y8, rfl, k4, tb4, sn, dg, st4⟩
      have hj := (List.getElem?_eq_some_iff.mp hx).1
      have hj' : j < sts.length := by rw [← w3.len]; exact hj
      obtain ⟨p, ev, hp⟩ := w3.get (List.getElem?_eq_getElem hj')
      have hmem := List.getElem_mem hj'
      have htk : sts.take (j + 1) = sts.take j ++ [sts[j]] := by
        rw [List.take_succ, List.getElem?_eq_getElem hj']
        rfl
      generalize sts[j] = s at hp hmem htk
      rw [ev] at hx
      cases hx
      obtain ⟨ha, hb⟩ := hso s hmem
      have hp4 : Tup H4 p (stV s) := hp.keep k4 (ntp H3 (.inl tb3) _ _ hp)
      have next : ∀ D' H', Keep ps H4 H' → TabAt H H' rl n n D' ps → Tle D' D → Snd sts n D' → (∃ d, D' s.b s.a = some d ∧ d ≤ s.m) → ∀ y5 y6 y7 y8, ∃ D z5 z6 z7 z8, [some (V.ref t), some (.ref sh), some (.int (n : Nat)), some (.ref rl), y4, y5, y6, y7, y8, none, none, none] =
          [some (.ref t), some (.ref sh), some (.int (n : Nat)), some (.ref rl), y4, z5, z6, z7, z8, none, none, none] ∧ Keep ps H3 H' ∧ TabAt H H' rl n n D ps ∧ Snd sts n D ∧ (∀ g, g < n → ∃ d, D g g = some d ∧ d ≤ 0) ∧ ∀ s ∈ sts.take (j + 1), ∃ d, D s.b s.a = some d ∧ d ≤ s.m := fun D' H' k' tb' le' sn' hs' y5 y6 y7 y8 => by
        refine ⟨D', _, _, _, _, rfl, k4.trans k', tb', sn', fun g hg => ?_, fun s' hs => ?_⟩
        · obtain ⟨d, e, l⟩ := dg g hg
          obtain ⟨d', e', l'⟩ := le' g g d e
          exact ⟨d', e', by omega⟩
        · rw [htk] at hs
          rcases List.mem_append.mp hs with hs | hs
          · obtain ⟨d, e, l⟩ := st4 s' hs
            obtain ⟨d', e', l'⟩ := le' _ _ d e
            exact ⟨d', e', by omega⟩
          · rw [List.mem_singleton.mp hs]
            exact hs'
      refine g_tup hp4 rfl ?_
      unfold stV
      walk_at "sx"
      refine ⟨_, _, rfl, _, _, rfl, _, _, rfl, _, _, rfl, rfl, ?_⟩
      unfold t__law_chart_b2
      walk_at "sx"
      have wr : (∀ d, D s.b s.a = some d → s.m ≤ d) → ∀ y5 y6 y7 y8, uIx K (.ref rl) (.int (s.b : Nat)) H4 fun o H1 => uSetL o (.int (s.a : Nat)) (.int s.m) H1 fun H' => ∃ D z5 z6 z7 z8, [some (V.ref t), some (.ref sh), some (.int (n : Nat)), some (.ref rl), y4, y5, y6, y7, y8, none, none, none] =
          [some (.ref t), some (.ref sh), some (.int (n : Nat)), some (.ref rl), y4, z5, z6, z7, z8, none, none, none] ∧ Keep ps H3 H' ∧ TabAt H H' rl n n D ps ∧ Snd sts n D ∧ (∀ g, g < n → ∃ d, D g g = some d ∧ d ≤ 0) ∧ ∀ s ∈ sts.take (j + 1), ∃ d, D s.b s.a = some d ∧ d ≤ s.m := fun hv y5 y6 y7 y8 =>
        tab_set tb4 hb ha fun H5 k5 tb5 => next _ H5 k5 tb5 (put_le hv) (put_snd sn (.one hmem)) ⟨_, put_same, Int.le_refl _⟩ _ _ _ _
      refine tab_get tb4 hb ha ?_
      cases ec : D s.b s.a with
      | none =>
        rw [if_pos (show mV none = V.non from rfl)]
        exact wr (fun d e => by rw [ec] at e; cases e) _ _ _ _
      | some c =>
        rw [if_neg (show ¬ mV (some c) = V.non from fun e => nomatch e)]
        refine tab_get tb4 hb ha ?_
        rw [ec]
        show rI0 _ (.int c) (.int s.m) _ _
        walk_at "sx"
        split
        · exact wr (fun d e => by rw [ec] at e; cases e; omega) _ _ _ _
        · exact next D H4 (Keep.refl _ _) tb4 (Tle.refl _) sn ⟨c, ec, by omega⟩ _ _ _ _
    · rintro σ H4 ⟨D, y5, y6, y7, y8, rfl, k4, tb4, sn, dg, st4⟩
      rw [w3.len, List.take_length] at st4
      have lo : Low sts n 0 D := fun h g L hh hg w => by
        cases w with
        | nil => exact dg _ hg
        | one hs => exact st4 _ hs
        | cons hs hb _ => omega
      refine ch_three K p10 hpos (fun s hs => (hso s hs).2) tb4 lo sn fun c H5 D' k5 ch ct => q c H5 D' ((kz.trans k3).pastL (k4.trans k5) tb.fr) ch ct


theorem drives_half (K : PySem.W.Frag) {D : Ends} {t sh ap p : Addr} {i : Nat} {T : Tn} {rd : Rd} {H : Hp} {us : List V} {ss : List Stp} (hp : H p = some (.lst us)) (w : Rws stV H us ss) (l : ss.length ≤ 100) (g2 : Tup H ap (T.places.map V.str)) (ro : RdOk T.places rd)
    (h : ∀ H' us', Keep [p] H H' → H' p = some (.lst us') → Rws stV H' us' (ss ++ backOf T.places i rd) → D.nx [some (.ref t), some (.ref sh), some (.ref ap), some (.ref p), some (.int (i : Nat)), some (.str rd.one), some (.str rd.two), some (mV rd.there), some (mV rd.back)] H') :
    t_drives_of_r1 K D [some (.ref t), some (.ref sh), some (.ref ap), some (.ref p), some (.int (i : Nat)), some (.str rd.one), some (.str rd.two), some (mV rd.there), some (mV rd.back)] H := by
  unfold t_drives_of_r1
  walk_at "sx"
  rw [notN]
  unfold backOf at h
  cases hb : rd.back with
  | none =>
    walk_at "sx"
    rw [hb, List.append_nil] at h
    exact h H us (Keep.refl _ _) hp w
  | some m =>
    rw [hb] at h
    rw [if_pos (show (!(some m : Option Int).isNone) = true from rfl)]
    refine ⟨.inl ⟨rfl, _, .inl (.inl hp)⟩, ap, T.places, rfl, g2, rd.two, pIx T.places rd.two, rfl, g2, pIx_at ro.two, fun m => pIx_first, ap, T.places, rfl, g2, rd.one, pIx T.places rd.one, rfl, g2, pIx_at ro.one, fun m => pIx_first, by walk_at "sz", fun x H4 n4 k4 t4 => ?_⟩
    have e4 := k4 _ _ nin0 hp
    refine g_append e4 (by rw [w.len]; exact len_lt (by omega)) fun H5 k5 e5 => ?_
    exact h H5 _ (k4.all.trans k5) e5 (Rws.snoc (f := stV) (r := ⟨i, pIx T.places rd.two, pIx T.places rd.one, m⟩) (t4.keep k5 (noTup1 e4 _ _ t4)) ((w.keep k4 noTup0).keep k5 (noTup1 e4)))
theorem g_inTI {K : PySem.W.Frag} {p : Addr} {i : Int} {zs : List Int} {H : Hp} {Q : VK} (h : Tup H p (zs.map V.int)) (q : Q (.bl (decide (i ∈ zs))) H) : uIn K false (.int i) (.ref p) H Q :=
  .inl ⟨p, _, rfl, .inr h.sq, rfl, flat_ints zs, by rw [if_neg (by decide), inV_int]; exact q⟩
theorem rd_drives (K : PySem.W.Frag) : ∀ vs H Q E, spSteps vs H Q E → run (t_drives_of K) (L2.start N_drives_of vs) H Q := by
  rintro _ H Q _ ⟨t, sh, T, zs, rfl, hT, ok, hz, q⟩
  have hT0 := hT
  obtain ⟨ap, ar, as, rv, g1, g2, g3, g4, g5⟩ := hT
  have r18 := ok.r18
  show run (t_drives_of K) [some (.ref t), some (.ref sh), none, none, none, none, none, none, none] H Q
  unfold t_drives_of
  walk_at "sx"
  refine g_ixT g1 (at_lit 0 rfl rfl) ⟨by walk_at "sz", fun p H1 n1 k1 e1 => g_ixT (g1.keep k1 nin0) (at_lit 1 rfl rfl) ?_⟩
  walk_at "sx"
  refine g_FE (fun i σ H' => ∃ y4 y5 y6 y7 y8 us, σ = [some (.ref t), some (.ref sh), some (.ref ap), some (.ref p), y4, y5, y6, y7, y8] ∧ Keep [p] H1 H' ∧ H' p = some (.lst us) ∧ Rws stV H' us (stepsTo T zs i)) (g3.keep k1 nin0) ⟨_, _, _, _, _, [], rfl, Keep.refl _ _, e1, .nil⟩ ?_ ?_ ?_
  · rintro i σ H' _ ⟨_, _, _, _, _, _, _, k', _⟩
    exact (g3.keep k1 nin0).keep k' (nin1 (ne_of_none g3.there.choose_spec n1))
  · rintro i x σ H2 Tp H3 hx ⟨y4, y5, y6, y7, y8, us, rfl, k2, e2, w2⟩ nT k3 eT
    have hi := (List.getElem?_eq_some_iff.mp hx).1
    have hi' : i < T.roads.length := by rw [← g4.len]; exact hi
    obtain ⟨pr, ev, hr⟩ := g4.get (List.getElem?_eq_getElem hi')
    have ro := ok.rd _ (List.getElem_mem hi')
    generalize hrr : T.roads[i] = rd at hr ro
    rw [ev] at hx
    cases hx
    have hst : stepsAt T zs i = if (i : Int) ∈ zs then [] else thereOf T.places i rd ++ backOf T.places i rd := by
      unfold stepsAt
      rw [List.getElem?_eq_getElem hi', hrr]
    have k12 : Keep [] H H3 := (k1.past k2 n1).trans k3
    have hl := stepsTo_len T zs i
    have e3 := k3 _ _ nin0 e2
    have w3 := w2.keep k3 noTup0
    refine g_pair eT rfl ?_
    walk_at "sx"
    refine ⟨_, _, rfl, _, _, rfl, g_tup (Tup.keep hr k12 nin0) rfl ?_⟩
    walk_at "sx"
    refine ⟨_, _, rfl, _, _, rfl, _, _, rfl, _, _, rfl, rfl, ?_⟩
    walk_at "sx"
    unfold t_drives_of_b1
    walk_at "sx"
    refine g_inTI (hz.keep k12 nin0) ?_
    by_cases hzi : (i : Int) ∈ zs
    · rw [decide_eq_true hzi]
      walk_at "sx"
      refine ⟨_, _, _, _, _, us, rfl, k2.trans k3.all, e3, ?_⟩
      rw [stepsTo_succ, hst, if_pos hzi, List.append_nil]
      exact w3
    · rw [decide_eq_false hzi]
      walk_at "sx"
      rw [if_neg hzi] at hst
      unfold t_drives_of_r2
      walk_at "sx"
      rw [notN]
      have g2' := g2.keep k12 nin0
      cases hth : rd.there with
      | none =>
        walk_at "sx"
        have := drives_half K (D := { nx := fun σ H' => ∃ y4 y5 y6 y7 y8 us, σ = [some (.ref t), some (.ref sh), some (.ref ap), some (.ref p), y4, y5, y6, y7, y8] ∧ Keep [p] H1 H' ∧ H' p = some (.lst us) ∧ Rws stV H' us (stepsTo T zs (i + 1)), rt := Q, ct := fun σ H' => ∃ y4 y5 y6 y7 y8 us, σ = [some (.ref t), some (.ref sh), some (.ref ap), some (.ref p), y4, y5, y6, y7, y8] ∧ Keep [p] H1 H' ∧ H' p = some (.lst us) ∧ Rws stV H' us (stepsTo T zs (i + 1)), bk := t_drives_of_r3 K { nx := fun x H' => Q V.non H', rt := Q } }) (t := t) (sh := sh) (i := i) e3 w3 (by omega) g2' ro fun H' us' k' e' w' => ⟨_, _, _, _, _, us', rfl, k2.trans (k3.all.trans k'), e', by
          rw [stepsTo_succ, hst]
          unfold thereOf
          rw [hth]
          exact w'⟩
        rw [hth] at this
        exact this
      | some m =>
        rw [if_pos (show (!(some m : Option Int).isNone) = true from rfl)]
        refine ⟨.inl ⟨rfl, _, .inl (.inl e3)⟩, ap, T.places, rfl, g2', rd.one, pIx T.places rd.one, rfl, g2', pIx_at ro.one, fun m => pIx_first, ap, T.places, rfl, g2', rd.two, pIx T.places rd.two, rfl, g2', pIx_at ro.two, fun m => pIx_first, by walk_at "sz", fun x H4 n4 k4 t4 => ?_⟩
        have e4 := k4 _ _ nin0 e3
        refine g_append e4 (by rw [w3.len]; exact len_lt (by omega)) fun H5 k5 e5 => ?_
        have kk := k4.all.trans k5
        have := drives_half K (D := { nx := fun σ H' => ∃ y4 y5 y6 y7 y8 us, σ = [some (.ref t), some (.ref sh), some (.ref ap), some (.ref p), y4, y5, y6, y7, y8] ∧ Keep [p] H1 H' ∧ H' p = some (.lst us) ∧ Rws stV H' us (stepsTo T zs (i + 1)), rt := Q, ct := fun σ H' => ∃ y4 y5 y6 y7 y8 us, σ = [some (.ref t), some (.ref sh), some (.ref ap), some (.ref p), y4, y5, y6, y7, y8] ∧ Keep [p] H1 H' ∧ H' p = some (.lst us) ∧ Rws stV H' us (stepsTo T zs (i + 1)), bk := t_drives_of_r3 K { nx := fun x H' => Q V.non H', rt := Q } }) (t := t) (sh := sh) (i := i) (ap := ap) e5 (Rws.snoc (f := stV) (r := ⟨i, pIx T.places rd.one, pIx T.places rd.two, m⟩) (t4.keep k5 (noTup1 e4 _ _ t4)) ((w3.keep k4 noTup0).keep k5 (noTup1 e4))) (by rw [List.length_append]; simp only [List.length_cons, List.length_nil]; omega) ((g2'.keep k4 nin0).keep k5 (noTup1 e4 _ _ (g2'.keep k4 nin0))) ro fun H' us' k' e' w' => ⟨_, _, _, _, _, us', rfl, k2.trans (k3.all.trans (kk.trans k')), e', by
          rw [stepsTo_succ, hst]
          unfold thereOf
          rw [hth, ← List.append_assoc]
          exact w'⟩
        rw [hth] at this
        exact this
  · rintro σ H2 ⟨y4, y5, y6, y7, y8, us, rfl, k2, e2, w2⟩
    unfold t_drives_of_r3
    walk_at "sx"
    rw [g4.len] at w2
    exact q p H2 us n1 (k1.past k2 n1) e2 w2
def leastB (f : Nat → Option Int) (s : Stp) : Bool := match f s.b with
  | none => false
  | some e => decide (f s.a = some (e + s.m))
def spLeast : Sp := fun vs H Q _ => ∃ (p d : Addr) (n : Nat) (f : Nat → Option Int) (s : Stp), vs = [.ref p, .ref d] ∧ Tup H p (rowV n f) ∧ Tup H d (stV s) ∧ s.a < n ∧ s.b < n ∧ Q (.bl (leastB f s)) H
theorem eq_mV {o : Option Int} {i : Int} : decide (mV o = V.int i) = decide (o = some i) := by
  cases o with
  | none => rw [decide_eq_false (fun h => nomatch h), decide_eq_false (fun h => nomatch h)]
  | some j =>
    show decide (V.int j = V.int i) = _
    by_cases h : j = i
    · rw [h, decide_eq_true rfl, decide_eq_true rfl]
    · rw [decide_eq_false (fun e => h (V.int.inj e)), decide_eq_false (fun e => h (Option.some.inj e))]
theorem scal_mV (o : Option Int) (i : Int) : scal (mV o) (.int i) = true := by cases o <;> rfl
theorem rd_least (K : PySem.W.Frag) : ∀ vs H Q E, spLeast vs H Q E → run (t_is_least K) (L2.start N_is_least vs) H Q := by
  rintro _ H Q _ ⟨p, d, n, f, s, rfl, hp, hd, ha, hb, q⟩
  show run (t_is_least K) [some (.ref p), some (.ref d), none, none, none, none] H Q
  unfold t_is_least
  walk_at "sx"
  refine g_tup hd rfl ?_
  unfold stV
  walk_at "sx"
  refine ⟨_, _, rfl, _, _, rfl, _, _, rfl, _, _, rfl, rfl, ?_⟩
  walk_at "sx"
  refine g_ixT hp (at_lit s.b rfl (rowV_at hb)) ?_
  walk_at "sx"
  rw [notN]
  unfold leastB at q
  cases e : f s.b with
  | none =>
    rw [e] at q
    exact q
  | some v =>
    rw [e] at q
    rw [if_pos (show (!(some v : Option Int).isNone) = true from rfl)]
    refine g_ixT hp (at_lit s.a rfl (rowV_at ha)) (g_ixT hp (at_lit s.b rfl (rowV_at hb)) ?_)
    rw [e]
    show uAdd K (.int v) (.int s.m) H _
    walk_at "sx"
    refine g_eq (scal_mV _ _) ?_
    rw [eq_mV]
    exact q
/-- the first step from h that is least -/
def fstP (D : Tab) (h g : Nat) (s : Stp) : Bool := decide (s.a = h) && leastB (D g) s
def fstV : Option Stp → V
  | none => .non
  | some s => .int (s.k : Nat)
def spFirst : Sp := fun vs H Q _ => ∃ (t sh c : Addr) (h g : Nat) (T : Tn) (zs : List Int) (D : Tab), vs = [.ref t, .ref sh, .ref c, .str (plOf T h), .str (plOf T g)] ∧ TnAt H t T ∧ TnOk T ∧ Tup H sh (zs.map V.int) ∧ ChAt H c T.places.length D ∧ h < T.places.length ∧ g < T.places.length ∧
  ∀ H', Keep [] H H' → Q (fstV ((stepsTo T zs T.roads.length).find? (fstP D h g))) H'
theorem pl_inj' {T : Tn} (nd : T.places.Nodup) {a b : Nat} (ha : a < T.places.length) (hb : b < T.places.length) (h : plOf T a = plOf T b) : a = b := by
  unfold plOf at h
  rw [List.getD_eq_getElem?_getD, List.getD_eq_getElem?_getD, List.getElem?_eq_getElem ha, List.getElem?_eq_getElem hb] at h
  exact (List.getElem_inj nd).mp h
theorem pl_mem' {T : Tn} {a : Nat} (ha : a < T.places.length) : plOf T a ∈ T.places := by
  unfold plOf
  rw [List.getD_eq_getElem?_getD, List.getElem?_eq_getElem ha]
  exact List.getElem_mem ha
theorem pIx_pl' {T : Tn} (nd : T.places.Nodup) {a : Nat} (ha : a < T.places.length) : pIx T.places (plOf T a) = a := pl_inj' nd (pIx_lt (pl_mem' ha)) ha (pl_pIx (pl_mem' ha))
theorem rd_first (K : PySem.W.Frag) : ∀ vs H Q E, spFirst vs H Q E → run (t_first_road K spSteps spLeast) (L2.start N_first_road vs) H Q := by
  rintro _ H Q _ ⟨t, sh, c, h, g, T, zs, D, rfl, hT, ok, hz, hc, hh, hg, q⟩
  have hT0 := hT
  obtain ⟨ap, ar, as, rv, g1, g2, g3, g4, g5⟩ := hT
  obtain ⟨vs, c1, c2, c3⟩ := hc
  obtain ⟨rw', er, tr⟩ := c3 g hg
  show run (t_first_road K spSteps spLeast) [some (.ref t), some (.ref sh), some (.ref c), some (.str (plOf T h)), some (.str (plOf T g)), none, none, none] H Q
  unfold t_first_road
  walk_at "sx"
  refine g_ixT g1 (at_lit 0 rfl rfl) ⟨ap, T.places, rfl, g2, plOf T h, pIx T.places (plOf T h), rfl, g2, pIx_at (pl_mem' hh), fun m => pIx_first, ?_⟩
  rw [pIx_pl' ok.nd hh]
  walk_at "sx"
  refine g_ixT g1 (at_lit 0 rfl rfl) ⟨ap, T.places, rfl, g2, plOf T g, pIx T.places (plOf T g), rfl, g2, pIx_at (pl_mem' hg), fun m => pIx_first, ?_⟩
  rw [pIx_pl' ok.nd hg]
  refine g_ixT c1 (at_lit g rfl er) ?_
  walk_at "sx"
  refine ⟨t, sh, T, zs, rfl, hT0, ok, hz, fun st H1 us n1 k1 e1 w1 => ?_⟩
  have hso : ∀ s ∈ stepsTo T zs T.roads.length, s.a < T.places.length ∧ s.b < T.places.length := fun s hs => ⟨(stepsTo_ok ok hs).a, (stepsTo_ok ok hs).b⟩
  generalize stepsTo T zs T.roads.length = sts at q w1 hso
  refine g_FL (fun i σ H' => ∃ y7, σ = [some (.ref t), some (.ref sh), some (.ref c), some (.str (plOf T h)), some (.str (plOf T g)), some (.int (h : Nat)), some (.ref rw'), y7] ∧ Keep [] H1 H' ∧ sts.find? (fstP D h g) = (sts.drop i).find? (fstP D h g)) (lst_sq e1) ⟨_, rfl, Keep.refl _ _, rfl⟩ ?_ ?_ ?_
  · rintro i σ H' _ ⟨_, _, k', _⟩
    exact lst_sq (k' _ _ nin0 e1)
  · rintro i x σ H2 hx ⟨y7, rfl, k2, ef⟩
    have hi := (List.getElem?_eq_some_iff.mp hx).1
    have hi' : i < sts.length := by rw [← w1.len]; exact hi
    obtain ⟨p, ev, hp⟩ := w1.get (List.getElem?_eq_getElem hi')
    have hd : sts.drop i = sts[i] :: sts.drop (i + 1) := List.drop_eq_getElem_cons hi'
    have hm := List.getElem_mem hi'
    rw [hd] at ef
    generalize sts[i] = s at hp ef hm
    rw [ev] at hx
    cases hx
    have hp2 := hp.keep k2 nin0
    have k02 := k1.trans k2
    rw [List.find?_cons] at ef
    unfold t_first_road_b1
    walk_at "sx"
    refine g_ixT hp2 (at_lit 1 rfl rfl) (g_eq rfl ?_)
    by_cases e : (s.a : Int) = (h : Int)
    · have e' : s.a = h := by omega
      rw [decide_eq_true (by rw [e])]
      walk_at "sx"
      refine ⟨rw', p, T.places.length, D g, s, rfl, tr.keep k02 nin0, hp2, (hso s hm).1, (hso s hm).2, ?_⟩
      have hf : fstP D h g s = leastB (D g) s := by unfold fstP; rw [decide_eq_true e', Bool.true_and]
      rw [hf] at ef
      cases hl : leastB (D g) s with
      | true =>
        walk_at "sx"
        rw [hl] at ef
        refine g_ixT hp2 (at_lit 0 rfl rfl) ?_
        have := q H2 k02
        rw [ef] at this
        exact this
      | false =>
        walk_at "sx"
        rw [hl] at ef
        exact ⟨_, rfl, k2, ef⟩
    · rw [decide_eq_false fun z => e (V.int.inj z)]
      walk_at "sx"
      have hf : fstP D h g s = false := by unfold fstP; rw [decide_eq_false (fun z => e (by omega)), Bool.false_and]
      rw [hf] at ef
      exact ⟨_, rfl, k2, ef⟩
  · rintro σ H2 ⟨y7, rfl, k2, ef⟩
    unfold t_first_road_r1
    walk_at "sx"
    rw [w1.len, List.drop_length] at ef
    have := q H2 (k1.trans k2)
    rw [ef] at this
    exact this


/-! ### chart_of: least minutes by rounds -/
theorem g_ixB {K : PySem.W.Frag} {p : Addr} {xs : List V} {i : Int} {v : V} {H : Hp} {Q : VK} (h : H p = some (.lst xs) ∨ Tup H p xs) (e : atI xs i = some v) (q : Q v H) : uIx K (.ref p) (.int i) H Q := h.elim (fun h => g_ixL h e q) fun h => g_ixT h e q
inductive Ew (sts : List Stp) : Nat → Nat → Nat → Int → Prop
  | nil (g : Nat) : Ew sts 0 g g 0
  | cons {s : Stp} {e g : Nat} {L : Int} : s ∈ sts → Ew sts e s.b g L → Ew sts (e + 1) s.a g (s.m + L)
inductive Wi (sts : List Stp) (S : List Nat) : Nat → Nat → Int → Prop
  | nil {g : Nat} : g ∈ S → Wi sts S g g 0
  | cons {s : Stp} {g : Nat} {L : Int} : s ∈ sts → s.a ∈ S → Wi sts S s.b g L → Wi sts S s.a g (s.m + L)
theorem Wi.start {sts : List Stp} {S : List Nat} {h g : Nat} {L : Int} (w : Wi sts S h g L) : h ∈ S := by
  cases w with
  | nil h => exact h
  | cons _ h _ => exact h
theorem Wi.last {sts : List Stp} {S : List Nat} {h g : Nat} {L : Int} (hm : ∀ s ∈ sts, 1 ≤ s.m) (x : Nat) (w : Wi sts S h g L) :
    Wi sts (S.filter fun y => decide (y ≠ x)) h g L ∨ ∃ L', L' ≤ L ∧ ((x = g ∧ L' = 0) ∨ ∃ s ∈ sts, s.a = x ∧ ∃ M, Wi sts (S.filter fun y => decide (y ≠ x)) s.b g M ∧ L' = s.m + M) := by
  induction w with
  | @nil g hg =>
    by_cases e : g = x
    · exact .inr ⟨0, Int.le_refl _, .inl ⟨e.symm, rfl⟩⟩
    · exact .inl (.nil (List.mem_filter.mpr ⟨hg, decide_eq_true e⟩))
  | @cons s g L hs ha w ih =>
    rcases ih with wl | ⟨L', le, c⟩
    · by_cases e : s.a = x
      · exact .inr ⟨s.m + L, Int.le_refl _, .inr ⟨s, hs, e, L, wl, rfl⟩⟩
      · exact .inl (.cons hs (List.mem_filter.mpr ⟨ha, decide_eq_true e⟩) wl)
    · exact .inr ⟨L', by have := hm s hs; omega, c⟩
theorem Wi.short {sts : List Stp} (hm : ∀ s ∈ sts, 1 ≤ s.m) : ∀ (c : Nat) (S : List Nat) {h g : Nat} {L : Int}, S.length ≤ c → Wi sts S h g L → ∃ e L', e < S.length ∧ L' ≤ L ∧ Ew sts e h g L' := by
  intro c
  induction c with
  | zero =>
    intro S h g L hc w
    have := List.length_pos_of_mem w.start
    omega
  | succ c ih =>
    intro S h g L hc w
    have hp := List.length_pos_of_mem w.start
    rcases w.last hm h with wl | ⟨L', le, ⟨rfl, rfl⟩ | ⟨s, hs, ea, M, wm, eL⟩⟩
    · have := of_decide_eq_true (List.mem_filter.mp wl.start).2
      exact absurd rfl this
    · exact ⟨0, 0, hp, le, .nil _⟩
    · have hlt : (S.filter fun y => decide (y ≠ h)).length < S.length := by
        refine List.length_filter_lt_length_iff_exists.mpr ⟨h, w.start, by simp⟩
      obtain ⟨e, L2, he, hl, we⟩ := ih _ (by omega) wm
      refine ⟨e + 1, s.m + L2, by omega, by omega, ?_⟩
      rw [← ea]
      exact .cons hs we
theorem wi_of {sts : List Stp} {n k : Nat} (hb : ∀ s ∈ sts, s.a < n ∧ s.b < n) {h g : Nat} {L : Int} (w : Wl sts k h g L) : h < n → Wi sts (List.range n) h g L := by
  induction w with
  | nil h => intro hh; exact .nil (List.mem_range.mpr hh)
  | @one s hs =>
    intro hh
    have := Wi.cons (sts := sts) (S := List.range n) hs (List.mem_range.mpr (hb _ hs).1) (.nil (List.mem_range.mpr (hb _ hs).2))
    rwa [Int.add_zero] at this
  | cons hs _ _ ih => intro hh; exact .cons hs (List.mem_range.mpr (hb _ hs).1) (ih (hb _ hs).2)
/-- what a row of a chart says -/
structure RowOk (sts : List Stp) (n g : Nat) (f : Nat → Option Int) : Prop where
  lo : ∀ h L, h < n → Wl sts n h g L → ∃ d, f h = some d ∧ d ≤ L
  sn : ∀ h d, f h = some d → Wl sts n h g d
def Fle (f f0 : Nat → Option Int) : Prop := ∀ h d, f0 h = some d → ∃ d', f h = some d' ∧ d' ≤ d
theorem Fle.refl (f : Nat → Option Int) : Fle f f := fun _ d e => ⟨d, e, Int.le_refl _⟩
theorem Fle.trans {f f1 f2 : Nat → Option Int} (a : Fle f f1) (b : Fle f1 f2) : Fle f f2 := fun h d e => by
  obtain ⟨d1, e1, l1⟩ := b h d e
  obtain ⟨d2, e2, l2⟩ := a h d1 e1
  exact ⟨d2, e2, Int.le_trans l2 l1⟩
def upd1 (f : Nat → Option Int) (a : Nat) (v : Int) : Nat → Option Int := fun h => if h = a then some v else f h
theorem upd1_same {f : Nat → Option Int} {a : Nat} {v : Int} : upd1 f a v a = some v := if_pos rfl
theorem rowV_upd {n : Nat} {f : Nat → Option Int} {h : Nat} {v : Int} (hh : h < n) : (rowV n f).set h (.int v) = rowV n (upd1 f h v) := by
  refine List.ext_getElem? fun i => ?_
  by_cases hi : i < n
  · rw [rowV_at hi]
    by_cases e : i = h
    · subst e
      rw [List.getElem?_set_self (by rw [rowV_len]; exact hi), upd1_same]
      rfl
    · rw [List.getElem?_set_ne (fun z => e z.symm), rowV_at hi]
      unfold upd1
      rw [if_neg e]
  · rw [List.getElem?_eq_none (by rw [List.length_set, rowV_len]; omega), List.getElem?_eq_none (by rw [rowV_len]; omega)]
/-- all walks of at most i steps are reckoned -/
def Pis (sts : List Stp) (n g : Nat) (f : Nat → Option Int) (i : Nat) : Prop := ∀ e h L, e ≤ i → h < n → Ew sts e h g L → ∃ d, f h = some d ∧ d ≤ L
def Dn (f0 f : Nat → Option Int) (ss : List Stp) : Prop := ∀ s ∈ ss, ∀ d, f0 s.b = some d → ∃ d', f s.a = some d' ∧ d' ≤ s.m + d
theorem pis_next {sts : List Stp} {n g i : Nat} {f0 f : Nat → Option Int} (hb : ∀ s ∈ sts, s.a < n ∧ s.b < n) (p : Pis sts n g f0 i) (l : Fle f f0) (dn : Dn f0 f sts) : Pis sts n g f (i + 1) := fun e h L he hh w => by
  by_cases h1 : e ≤ i
  · obtain ⟨d, e1, l1⟩ := p e h L h1 hh w
    obtain ⟨d', e2, l2⟩ := l h d e1
    exact ⟨d', e2, Int.le_trans l2 l1⟩
  · cases w with
    | nil => omega
    | @cons s e _ L hs w =>
      obtain ⟨d, e1, l1⟩ := p e s.b L (by omega) (hb s hs).2 w
      obtain ⟨d', e2, l2⟩ := dn s hs d e1
      exact ⟨d', e2, by omega⟩
theorem row_of {sts : List Stp} {n g : Nat} {f : Nat → Option Int} (hm : ∀ s ∈ sts, 1 ≤ s.m) (hb : ∀ s ∈ sts, s.a < n ∧ s.b < n) (p : Pis sts n g f n) (sn : ∀ h d, f h = some d → Wl sts n h g d) : RowOk sts n g f :=
  ⟨fun h L hh w => by
    obtain ⟨e, L', he, hl, we⟩ := (wi_of hb w hh).short hm _ _ (Nat.le_refl _)
    rw [List.length_range] at he
    obtain ⟨d, e1, l1⟩ := p e h L' (by omega) hh we
    exact ⟨d, e1, by omega⟩, sn⟩
def stpB (f : Nat → Option Int) (s : Stp) : Bool := match f s.b with
  | none => false
  | some e => match f s.a with
    | none => true
    | some d => decide (e + s.m < d)
def spSteep (K : PySem.W.Frag) : Sp := fun vs H Q _ => ∃ (r p : Addr) (n : Nat) (f : Nat → Option Int) (s : Stp), vs = [.ref r, .ref p] ∧ (H r = some (.lst (rowV n f)) ∨ Tup H r (rowV n f)) ∧ Tup H p (stV s) ∧ s.a < n ∧ s.b < n ∧ Q (.bl (stpB f s)) H
theorem rd_steep (K : PySem.W.Frag) : ∀ vs H Q E, spSteep K vs H Q E → run (t_is_steep K) (L2.start N_is_steep vs) H Q := by
  rintro _ H Q _ ⟨r, p, n, f, s, rfl, hr, tp, ha, hb, q⟩
  show run (t_is_steep K) [some (.ref r), some (.ref p), none, none, none, none] H Q
  unfold t_is_steep
  walk_at "sx"
  refine g_tup tp rfl ?_
  unfold stV
  walk_at "sx"
  refine ⟨_, _, rfl, _, _, rfl, _, _, rfl, _, _, rfl, rfl, ?_⟩
  walk_at "sx"
  refine g_ixB hr (at_lit s.b rfl (rowV_at hb)) ?_
  walk_at "sx"
  unfold stpB at q
  cases eb : f s.b with
  | none =>
    rw [eb] at q
    rw [if_pos (show mV none = V.non from rfl)]
    exact q
  | some e =>
    rw [eb] at q
    rw [if_neg (show ¬ mV (some e) = V.non from fun e => nomatch e)]
    unfold t_is_steep_r1
    walk_at "sx"
    refine g_ixB hr (at_lit s.a rfl (rowV_at ha)) ?_
    cases ea : f s.a with
    | none =>
      rw [ea] at q
      walk_at "sx"
      rw [decide_eq_true (show mV none = V.non from rfl)]
      exact q
    | some d =>
      rw [ea] at q
      walk_at "sx"
      rw [if_neg (show ¬ mV (some d) = V.non from fun e => nomatch e)]
      refine g_ixB hr (at_lit s.a rfl (rowV_at ha)) ?_
      refine g_ixB hr (at_lit s.b rfl (rowV_at hb)) ?_
      rw [ea, eb]
      show uAdd K (.int e) (.int s.m) H _
      walk_at "sx"
      show rI0 _ (.int d) (.int (e + s.m)) H Q
      walk_at "sx"
      exact q
def spRowMin (K : PySem.W.Frag) : Sp := fun vs H Q _ => ∃ (l : Addr) (us : List V) (sts : List Stp) (n g : Nat), vs = [.ref l, .int (n : Nat), .int (g : Nat)] ∧ H l = some (.lst us) ∧ Rws stV H us sts ∧ g < n ∧ n ≤ 10 ∧ (∀ s ∈ sts, 1 ≤ s.m) ∧ (∀ s ∈ sts, s.a < n ∧ s.b < n) ∧
  ∀ p H' f, Keep [] H H' → Tup H' p (rowV n f) → RowOk sts n g f → Q (.ref p) H'
theorem rd_rowMin (K : PySem.W.Frag) : ∀ vs H Q E, spRowMin K vs H Q E → run (t__least_minutes K (spSteep K)) (L2.start N__least_minutes vs) H Q := by
  rintro _ H Q _ ⟨l, us, sts, n, g, rfl, hl, hw, hg, hn, hm, hb, q⟩
  show run (t__least_minutes K (spSteep K)) [some (.ref l), some (.int (n : Nat)), some (.int (g : Nat)), none, none, none] H Q
  unfold t__least_minutes
  walk_at "sx"
  refine ⟨by walk_at "sz", fun r0 H0 n0 k0 e0 => ?_⟩
  refine .inr ⟨r0, n, [.non], rfl, rfl, e0, by omega, by omega, by exact len_le (by simp; omega), fun r H1 n1 k1 e1 => ?_⟩
  have r0V : (List.replicate n [V.non]).flatten.set g (.int 0) = rowV n (fun h => if h = g then some 0 else none) := by
    have e : (List.replicate n [V.non]).flatten = rowV n (fun _ => none) := by
      have : ∀ k, (List.replicate k [V.non]).flatten = rowV k (fun _ => none) := fun k => by
        induction k with
        | zero => rfl
        | succ k ih => rw [List.replicate_succ', List.flatten_append, ih]; unfold rowV; rw [List.range_succ, List.map_append]; rfl
      exact this n
    rw [e, rowV_upd hg]
    rfl
  have hix : ∀ {f : Nat → Option Int} {h : Nat}, h < n → ixN (rowV n f).length (h : Int) = some h := fun {f h} hh => by
    unfold ixN
    rw [if_pos (by omega), rowV_len, if_pos (by omega)]
    rfl
  walk_at "sx"
  refine g_setL e1 (k := g) (by
    unfold ixN
    rw [if_pos (by omega), if_pos (by simp; omega)]
    rfl) fun H2 k2 e2 => ?_
  rw [show (List.replicate (n : Int).toNat [V.non]).flatten = (List.replicate n [V.non]).flatten by rw [Int.toNat_natCast], r0V] at e2
  walk_at "sx"
  have k01 := k0.trans k1
  have nr : H r = none := k0.free nin0 n1
  have hl1 := k01 _ _ nin0 hl
  have nlr : l ≠ r := ne_of_none hl nr
  refine g_FR1 (by omega) (by omega) ⟨fun i σ H' => ∃ y4 y5 f, σ = [some (.ref l), some (.int (n : Nat)), some (.int (g : Nat)), some (.ref r), y4, y5] ∧ Keep [r] H1 H' ∧ H' r = some (.lst (rowV n f)) ∧ Pis sts n g f i ∧ (∀ h d, f h = some d → Wl sts n h g d),
    ⟨_, _, _, rfl, k2, e2, fun e h L he hh w => ?_, fun h d e => ?_⟩, ?_, ?_⟩
  · obtain rfl : e = 0 := by omega
    cases w
    exact ⟨0, if_pos rfl, Int.le_refl _⟩
  · split at e
    · rename_i e1
      cases e
      rw [e1]
      exact .nil _
    · cases e
  · rintro i σ H3 hi ⟨y4, y5, f0, rfl, k3, e3, pi, sn⟩
    unfold t__least_minutes_b2
    walk_at "sx"
    refine g_FL (fun j σ H' => ∃ y5 f, σ = [some (.ref l), some (.int (n : Nat)), some (.int (g : Nat)), some (.ref r), some (.int (i : Nat)), y5] ∧ Keep [r] H1 H' ∧ H' r = some (.lst (rowV n f)) ∧ Fle f f0 ∧ Dn f0 f (sts.take j) ∧ (∀ h d, f h = some d → Wl sts n h g d))
      (lst_sq (k3 _ _ (nin1 nlr) hl1)) ⟨_, f0, rfl, k3, e3, Fle.refl _, fun s hs => by simp at hs, sn⟩ ?_ ?_ ?_
    · rintro j σ H' _ ⟨_, _, _, k', _⟩
      exact lst_sq (k' _ _ (nin1 nlr) hl1)
    · rintro j x σ H4 hx ⟨y5, f, rfl, k4, e4, fl, dn, sn4⟩
      have hj := (List.getElem?_eq_some_iff.mp hx).1
      have hj' : j < sts.length := by rw [← hw.len]; exact hj
      obtain ⟨p, ev, hp⟩ := hw.get (List.getElem?_eq_getElem hj')
      have hmem := List.getElem_mem hj'
      have htk : sts.take (j + 1) = sts.take j ++ [sts[j]] := by
        rw [List.take_succ, List.getElem?_eq_getElem hj']
        rfl
      generalize sts[j] = s at hp hmem htk
      rw [ev] at hx
      cases hx
      obtain ⟨ha, hb'⟩ := hb s hmem
      have hp1 := hp.keep k01 nin0
      have hp4 : Tup H4 p (stV s) := hp1.keep k4 (nin1 (hp1.neL e1))
      have next : ∀ f' H' y5, Keep [r] H1 H' → H' r = some (.lst (rowV n f')) → Fle f' f → (∀ d, f0 s.b = some d → ∃ d', f' s.a = some d' ∧ d' ≤ s.m + d) → (∀ h d, f' h = some d → Wl sts n h g d) →
          ∃ z5 f, [some (V.ref l), some (.int (n : Nat)), some (.int (g : Nat)), some (.ref r), some (.int (i : Nat)), y5] = [some (.ref l), some (.int (n : Nat)), some (.int (g : Nat)), some (.ref r), some (.int (i : Nat)), z5] ∧ Keep [r] H1 H' ∧ H' r = some (.lst (rowV n f)) ∧ Fle f f0 ∧ Dn f0 f (sts.take (j + 1)) ∧ (∀ h d, f h = some d → Wl sts n h g d) := fun f' H' y5 k' e' l' d' s' =>
        ⟨_, f', rfl, k', e', l'.trans fl, fun s2 hs2 d hd => by
          rw [htk] at hs2
          rcases List.mem_append.mp hs2 with h | h
          · obtain ⟨d1, e1, l1⟩ := dn s2 h d hd
            obtain ⟨d2, e2, l2⟩ := l' _ _ e1
            exact ⟨d2, e2, by omega⟩
          · rw [List.mem_singleton.mp h] at hd ⊢
            exact d' d hd, s'⟩
      unfold t__least_minutes_b1
      walk_at "sx"
      refine ⟨r, p, n, f, s, rfl, .inl e4, hp4, ha, hb', ⟨_, rfl, ?_⟩⟩
      cases eb : f s.b with
      | none =>
        have e0 : stpB f s = false := by unfold stpB; rw [eb]
        rw [e0, if_neg (by decide)]
        walk_at "sx"
        refine next f H4 _ k4 e4 (Fle.refl _) (fun d hd => ?_) sn4
        obtain ⟨d', e', _⟩ := fl _ _ hd
        rw [eb] at e'
        cases e'
      | some eo =>
        have bound : ∀ d, f0 s.b = some d → eo ≤ d := fun d hd => by
          obtain ⟨d', e', l'⟩ := fl _ _ hd
          rw [eb] at e'
          cases e'
          exact l'
        by_cases hst : stpB f s = true
        · rw [hst, if_pos rfl]
          walk_at "sx"
          refine g_ixT hp4 (at_lit 2 rfl rfl) ?_
          refine g_ixL e4 (at_lit s.b rfl (rowV_at hb')) ?_
          refine g_ixT hp4 (at_lit 3 rfl rfl) ?_
          rw [eb]
          show uAdd K (.int eo) (.int s.m) H4 _
          walk_at "sx"
          refine g_ixT hp4 (at_lit 1 rfl rfl) ?_
          refine g_setL e4 (hix ha) fun H5 k5 e5 => ?_
          rw [rowV_upd ha] at e5
          have hlt : ∀ d, f s.a = some d → eo + s.m < d := fun d hd => by
            unfold stpB at hst
            rw [eb, hd] at hst
            exact of_decide_eq_true hst
          refine next _ H5 _ (k4.trans k5) e5 (fun h d hd => ?_) (fun d hd => ⟨_, upd1_same, by have := bound d hd; omega⟩) fun h d hd => ?_
          · unfold upd1
            by_cases hh : h = s.a
            · rw [if_pos hh]
              exact ⟨_, rfl, by have := hlt d (hh ▸ hd); omega⟩
            · rw [if_neg hh]
              exact ⟨d, hd, Int.le_refl _⟩
          · unfold upd1 at hd
            by_cases hh : h = s.a
            · rw [if_pos hh] at hd
              cases hd
              rw [hh, Int.add_comm]
              exact .cons hmem hb' (sn4 _ _ eb)
            · rw [if_neg hh] at hd
              exact sn4 _ _ hd
        · rw [Bool.eq_false_iff.mpr hst, if_neg (by decide)]
          walk_at "sx"
          refine next f H4 _ k4 e4 (Fle.refl _) (fun d hd => ?_) sn4
          unfold stpB at hst
          rw [eb] at hst
          cases ea : f s.a with
          | none => rw [ea] at hst; exact absurd rfl hst
          | some d1 =>
            rw [ea] at hst
            refine ⟨d1, rfl, ?_⟩
            have := bound d hd
            have : ¬ (eo + s.m < d1) := fun z => hst (decide_eq_true z)
            omega
    · rintro σ H4 ⟨y5, f, rfl, k4, e4, fl, dn, sn4⟩
      rw [hw.len, List.take_length] at dn
      exact ⟨_, _, f, rfl, k4, e4, pis_next hb pi fl dn, sn4⟩
  · rintro σ H3 ⟨y4, y5, f, rfl, k3, e3, pi, sn⟩
    rw [Int.toNat_natCast] at pi
    unfold t__least_minutes_r1
    walk_at "sx"
    refine g_tupleL e3 fun p H4 n4 k4 t4 => q p H4 f ((k01.past k3 nr).trans k4) t4 (row_of hm hb pi sn)
def spChartOf : Sp := spChart
theorem rd_chartOf (K : PySem.W.Frag) : ∀ vs H Q E, spChartOf vs H Q E → run (t_chart_of K spSteps (spRowMin K)) (L2.start N_chart_of vs) H Q := by
  rintro _ H Q _ ⟨t, sh, T, zs, rfl, hT, ok, hz, q⟩
  have p10 := ok.p10
  have hT0 := hT
  obtain ⟨ap, ar, as, rv, g1, g2, g3, g4, g5⟩ := hT
  show run (t_chart_of K spSteps (spRowMin K)) [some (.ref t), some (.ref sh), none, none, none] H Q
  unfold t_chart_of
  walk_at "sx"
  refine ⟨t, sh, T, zs, rfl, hT0, ok, hz, fun st H1 us n1 k1 e1 w1 => ?_⟩
  refine g_ixT (g1.keep k1 nin0) (at_lit 0 rfl rfl) (g_lenT (g2.keep k1 nin0) ?_)
  rw [List.length_map]
  have hpos := steps_pos (zs := zs) (n := T.roads.length) ok
  have hso : ∀ s ∈ stepsTo T zs T.roads.length, s.a < T.places.length ∧ s.b < T.places.length := fun s hs => by
    have := stepsTo_ok ok hs
    exact ⟨this.a, this.b⟩
  generalize stepsTo T zs T.roads.length = sts at q w1 hpos hso
  generalize T.places.length = n at q p10 hso
  walk_at "sx"
  refine g_CR1 (S := []) (fun _ h => (List.not_mem_nil h).elim) (by omega) (by omega) ⟨fun j H' acc => acc.length = j ∧ ∃ D : Tab, ∀ g, g < j → RowOk sts n g (D g) ∧ ∃ p, acc[g]? = some (.ref p) ∧ Tup H' p (rowV n (D g)), fun _ _ _ _ => ⟨rfl, fun _ _ => none, fun g hg => by omega⟩, ?_, ?_⟩
  · rintro L j H2 acc R R0 nL hj k2 eL ⟨la, D, oa⟩ hR hR0
    walk_at "sx"
    refine ⟨st, us, sts, n, j, rfl, k2 _ _ nin0 e1, w1.keep k2 noTup0, by omega, p10, hpos, hso, fun p H3 f k3 t3 rk => ?_⟩
    refine hR _ _ k3 (by exact len_lt (by omega)) fun H5 k5 => ⟨by rw [List.length_append, la]; rfl, fun g => if g = j then f else D g, fun g hg => ?_⟩
    have eL3 := k3 _ _ nin0 eL
    by_cases h : g < j
    · obtain ⟨ro, p', e', t'⟩ := oa g h
      have e2 : (fun g => if g = j then f else D g) g = D g := if_neg (by omega)
      rw [e2]
      exact ⟨ro, p', by rw [List.getElem?_append_left (by omega)]; exact e', (t'.keep k3 nin0).keep k5 (nin1 ((t'.keep k3 nin0).neL eL3))⟩
    · have hgj : g = j := by omega
      subst hgj
      have e2 : (fun g_1 => if g_1 = g then f else D g_1) g = f := if_pos rfl
      rw [e2]
      exact ⟨rk, p, by rw [List.getElem?_append_right (by omega), la, Nat.sub_self]; rfl, t3.keep k5 (nin1 (t3.neL eL3))⟩
  · rintro L H2 acc nL k2 eL ⟨la, D, oa⟩
    rw [Int.toNat_natCast] at la oa
    refine g_tupleL eL fun c H3 n3 k3 t3 => ?_
    refine q c H3 (fun g h => if g < n then D g h else none) ((k1.trans k2).trans k3) ⟨acc, t3, la, fun g hg => ?_⟩ (cht_of hpos (fun s hs => (hso s hs).2) (fun h g L hh hg w => ?_) fun g h d e => ?_)
    · obtain ⟨_, p, e, t'⟩ := oa g hg
      refine ⟨p, e, ?_⟩
      have : rowV n (fun h => if g < n then D g h else none) = rowV n (D g) := by
        congr 1
        funext h
        rw [if_pos hg]
      rw [this]
      exact t'.keep k3 nin0
    · rw [if_pos hg]
      exact (oa g hg).1.lo h L hh w
    · split at e
      · rename_i hg
        exact (oa g hg).1.sn h d e
      · cases e
theorem ChAt.keepS {S : List Addr} {H H' : Hp} {c : Addr} {n : Nat} {D : Tab} (h : ChAt H c n D) (k : Keep S H H') (hn : NoTup S H) : ChAt H' c n D := by
  obtain ⟨vs, h1, h2, h3⟩ := h
  refine ⟨vs, h1.keep k (hn _ _ h1), h2, fun g hg => ?_⟩
  obtain ⟨p, e, t⟩ := h3 g hg
  exact ⟨p, e, t.keep k (hn _ _ t)⟩
/-- a chart is the only one -/
theorem cht_one {sts : List Stp} {n : Nat} {D D' : Tab} (a : Cht sts n D) (b : Cht sts n D') : ∀ g h, g < n → h < n → D g h = D' g h := by
  have le : ∀ {D D' : Tab}, Cht sts n D → Cht sts n D' → ∀ g h d, g < n → h < n → D g h = some d → ∃ d', D' g h = some d' ∧ d' ≤ d := fun a b g h d hg hh e => b.lo h g d hh hg (a.sn g h d e)
  intro g h hg hh
  cases e : D g h with
  | none =>
    cases e' : D' g h with
    | none => rfl
    | some d' =>
      obtain ⟨d, e1, _⟩ := le b a g h d' hg hh e'
      rw [e] at e1
      cases e1
  | some d =>
    obtain ⟨d', e1, l1⟩ := le a b g h d hg hh e
    obtain ⟨d2, e2, l2⟩ := le b a g h d' hg hh e1
    rw [e] at e2
    cases e2
    rw [e1]
    congr 1
    omega
/-! ### the town in a row -/
def spLined (K : PySem.W.Frag) : Sp := fun vs H Q _ => ∃ (a : Addr) (ns : List Int), vs = [.ref a] ∧ Scr K H a (ns.map V.int) ∧ ∀ p H' T, Keep [] H H' → TnAt H' p T → TnOk T → Q (.ref p) H'
theorem two_of {ys : List Str} {k : Nat} (h : k + 2 ≤ ys.length) : ∃ a b, ys[k]? = some a ∧ ys[k + 1]? = some b ∧ cutV (ys.map V.str) (some (k : Int)) (some ((k : Int) + 2)) = [.str a, .str b] := by
  have h1 : k < ys.length := by omega
  have h2 : k + 1 < ys.length := by omega
  refine ⟨ys[k], ys[k + 1], List.getElem?_eq_getElem h1, List.getElem?_eq_getElem h2, ?_⟩
  have hcut := cut_nat V.str ys k (k + 2)
  rw [show min k ys.length = k by omega, show min (k + 2) ys.length - k = 2 by omega, show ((k + 2 : Nat) : Int) = (k : Int) + 2 by omega, List.drop_eq_getElem_cons h1, List.drop_eq_getElem_cons h2] at hcut
  rw [hcut]
  rfl
theorem rds_rev {H : Hp} : ∀ {vs : List V} {rs : List Rd}, RdsAt H vs rs → RdsAt H vs.reverse rs.reverse
  | _, _, .nil => .nil
  | _, _, .cons h q => by
    rw [List.reverse_cons, List.reverse_cons]
    exact RdsAt.snoc h (rds_rev q)
theorem pm_at {x : Int} : ∃ v : Int, atI [V.int 1, V.int (-1)] (x % 2) = some (.int v) ∧ (v = 1 ∨ v = -1) := by
  obtain ⟨v, hv, mv⟩ := mul_at (x := x) [V.int 1, V.int (-1)] 2 rfl (by decide)
  simp only [List.mem_cons, List.not_mem_nil, or_false] at mv
  rcases mv with rfl | rfl
  · exact ⟨1, hv, .inl rfl⟩
  · exact ⟨-1, hv, .inr rfl⟩
theorem rd_lined (K : PySem.W.Frag) : ∀ vs H Q E, spLined K vs H Q E → run (t__law_lined K (spTown K) spRow (spCell K) spNames) (L2.start N__law_lined vs) H Q := by
  rintro _ H Q _ ⟨a, ns, rfl, hS, q⟩
  show run (t__law_lined K (spTown K) spRow (spCell K) spNames) [some (.ref a), none, none, none, none, none, none, none, none] H Q
  unfold t__law_lined
  walk_at "sx"
  refine ⟨a, 0, ns, rfl, hS, fun t H1 T k1 hT ok => ?_⟩
  walk_at "sx"
  refine ⟨a, 0, ns, rfl, (hS.keep0 k1).sq, by decide, fun c => ?_⟩
  walk_at "sx"
  refine ⟨c, 20, rfl, by decide, fun r H2 xs n2 k2 l2 hr => ?_⟩
  obtain ⟨hr, hx⟩ := hr
  obtain ⟨x12, e12, b12, c12⟩ := Row.get hx (i := 12) (by omega)
  obtain ⟨x13, e13, b13, c13⟩ := Row.get hx (i := 13) (by omega)
  obtain ⟨x18, e18, b18, c18⟩ := Row.get hx (i := 18) (by omega)
  walk_at "sx"
  refine g_ixL hr (at_lit 18 rfl e18) ?_
  walk_at "sx"
  refine ⟨by decide, g_ne rfl ⟨_, rfl, ?_⟩⟩
  by_cases h6 : x18 % 6 = 1
  · rw [h6, if_neg (by decide)]
    unfold t__law_lined_r2
    walk_at "sx"
    refine ⟨r, 10, xs, rfl, ⟨hr, hx⟩, by omega, by omega, by omega, by omega, fun nm H3 ys n3 k3 hn ly nd oky => ?_⟩
    walk_at "sx"
    refine ⟨by walk_at "sz", fun rl H4 n4 k4 hrl => ?_⟩
    walk_at "sx"
    have k04 := k1.trans (k2.trans (k3.trans k4))
    have hS4 : Scr K H4 a (ns.map V.int) := hS.keep0 k04
    have hr4 := (k3.trans k4) _ _ nin0 hr
    have hn4 := k4 _ _ nin0 hn
    have nrl : H rl = none := (k1.trans (k2.trans k3)).free nin0 n4
    have nrl1 : H1 rl = none := (k2.trans k3).free nin0 n4
    have hnm : nm ≠ rl := ne_of_none hn n4
    have hrr : r ≠ rl := ne_of_none (k3 _ _ nin0 hr) n4
    refine g_FR1 (by decide) (by decide) ⟨fun i σ H' => ∃ y5 y6 y7 y8 vs rs, σ = [some (.ref a), some (.ref t), some (.ref r), some (.ref nm), some (.ref rl), y5, y6, y7, y8] ∧ Keep [rl] H4 H' ∧ H' rl = some (.lst vs) ∧ RdsAt H' vs rs ∧ rs.length = i ∧ ∀ x ∈ rs, RdOk ys x,
      ⟨_, _, _, _, [], [], rfl, Keep.refl _ _, hrl, .nil, rfl, fun _ h => (List.not_mem_nil h).elim⟩, ?_, ?_⟩
    · rintro i σ H5 hi ⟨y5, y6, y7, y8, vs, rs, rfl, k5, e5, d5, l5, o5⟩
      have hi' : i < 9 := hi
      have k05 : Keep [] H H5 := k04.past k5 nrl
      have hn5 := k5 _ _ (nin1 hnm) hn4
      have hr5 := k5 _ _ (nin1 hrr) hr4
      unfold t__law_lined_b1
      walk_at "sx"
      refine ⟨a, 1 + (i : Nat), ns, rfl, (hS.keep0 k05).sq, by omega, fun c2 => ?_⟩
      walk_at "sx"
      refine ⟨c2, 6, rfl, by decide, fun r6 H6 x6 n6 k6 l6 hr6 => ?_⟩
      obtain ⟨hr6, hx6⟩ := hr6
      obtain ⟨z2, f2, g2, i2⟩ := Row.get hx6 (i := 2) (by omega)
      obtain ⟨z3, f3, g3, i3⟩ := Row.get hx6 (i := 3) (by omega)
      obtain ⟨z5, f5, g5, i5⟩ := Row.get hx6 (i := 5) (by omega)
      walk_at "sx"
      refine e_stepL.mpr ?_
      walk_at "sx"
      obtain ⟨ea, eb, ga, gb, hcut⟩ := two_of (ys := ys) (k := i) (by omega)
      have k46 := k5.trans k6.all
      have hn6 := k6 _ _ nin0 hn5
      have hr6' := k6 _ _ nin0 hr5
      refine g_slL (lst_sq hn6) fun sl H7 n7 k7 e7 => ?_
      rw [hcut] at e7
      refine ⟨by walk_at "sz", fun l8 H8 n8 k8 e8 => ?_⟩
      have k68 := k7.trans k8
      refine g_ixL (k68 _ _ nin0 hr6') (at_lit 18 rfl e18) ?_
      walk_at "sx"
      obtain ⟨v, hv, sv⟩ := pm_at (x := x18 / 6)
      refine ⟨⟨by decide, by decide⟩, by decide, g_ixL e8 hv ⟨v, rfl, sl, _, v, rfl, lst_sq (k8 _ _ nin0 e7), rfl, sv, fun en n9 => ?_⟩⟩
      obtain ⟨H9, hH9⟩ : ∃ H9, H9 = upd H8 en (.lst (if v = 1 then [.str ea, .str eb] else [.str ea, .str eb].reverse)) := ⟨_, rfl⟩
      rw [← hH9]
      have k9 : Keep [] H8 H9 := hH9 ▸ Keep.new n9
      have e9 : H9 en = some (.lst (if v = 1 then [.str ea, .str eb] else [.str ea, .str eb].reverse)) := by rw [hH9]; exact upd_same
      obtain ⟨u, w, hu, hw, huw, e9'⟩ : ∃ u w : Str, u ∈ ys ∧ w ∈ ys ∧ u ≠ w ∧ H9 en = some (.lst [.str u, .str w]) := by
        have h1 := List.mem_of_getElem? ga
        have h2 := List.mem_of_getElem? gb
        have hne := nodup_ne nd ga gb (by omega)
        rcases sv with rfl | rfl
        · exact ⟨ea, eb, h1, h2, hne, e9⟩
        · exact ⟨eb, ea, h2, h1, hne.symm, e9⟩
      have k69 := k68.trans k9
      have hr6_9 := k69 _ _ nin0 hr6
      refine g_ixL hr6_9 (at_lit 2 rfl f2) ?_
      walk_at "sx"
      refine ⟨by decide, g_ixL hr6_9 (at_lit 2 rfl f2) ?_⟩
      walk_at "sx"
      refine ⟨by decide, by walk_at "sz", fun l10 H10 n10 k10 e10 => ?_⟩
      refine g_ixL ((k69.trans k10) _ _ nin0 hr6') (at_lit 18 rfl e18) ?_
      walk_at "sx"
      obtain ⟨vm, hvm, mvm⟩ := mul_at (x := x18 / 24) [V.int (1 + z2 % 60), V.int (40 + z2 % 21)] 2 rfl (by decide)
      obtain ⟨th, rfl, hth⟩ : ∃ th : Int, vm = .int th ∧ 1 ≤ th ∧ th ≤ 60 := by
        simp only [List.mem_cons, List.not_mem_nil, or_false] at mvm
        rcases mvm with rfl | rfl
        · exact ⟨_, rfl, by omega, by omega⟩
        · exact ⟨_, rfl, by omega, by omega⟩
      refine ⟨⟨by decide, by decide⟩, by decide, g_ixL e10 hvm ?_⟩
      have k610 := k69.trans k10
      have e5' := k610 _ _ nin0 (k6 _ _ nin0 e5)
      refine ⟨.inl ⟨rfl, _, .inl (.inl e5')⟩, ?_⟩
      have e9z := k10 _ _ nin0 e9'
      refine g_ixL e9z (at_lit 0 rfl rfl) (g_ixL e9z (at_lit 1 rfl rfl) (g_ixL (k10 _ _ nin0 hr6_9) (at_lit 3 rfl f3) ?_))
      walk_at "sx"
      refine ⟨by decide, by walk_at "sz", fun l11 H11 n11 k11 e11 => ?_⟩
      refine g_ixL (k11 _ _ nin0 (k10 _ _ nin0 hr6_9)) (at_lit 5 rfl f5) ?_
      walk_at "sx"
      refine ⟨by decide, g_eq rfl ?_⟩
      walk_at "sx"
      refine g_ixL e11 e2v ⟨by walk_at "sz", fun p H12 n12 k12 t12 => ?_⟩
      have kz := k610.trans (k11.trans k12)
      have e12' := (k11.trans k12) _ _ nin0 e5'
      have d12 := (d5.keep k6 noTup0).keep kz noTup0
      refine g_append e12' (by rw [d12.len]; exact len_lt (by omega)) fun H13 k13 e13' => ?_
      refine ⟨_, _, _, _, vs ++ [.ref p], rs ++ [⟨u, w, some th, if z5 % 3 = 1 then none else some (1 + z3 % 60)⟩], rfl, k46.trans (kz.all.trans k13), e13', (d12.keep k13 (noTup1 e12')).snoc ?_, by simp [l5], fun x hx => ?_⟩
      · have z2' : (if z5 % 3 = 1 then V.non else V.int (1 + z3 % 60)) = mV (if z5 % 3 = 1 then none else some (1 + z3 % 60)) := by split <;> rfl
        rw [z2'] at t12
        exact Tup.keep t12 k13 (noTup1 e12' _ _ t12)
      · rcases List.mem_append.mp hx with hx | hx
        · exact o5 x hx
        · rw [List.mem_singleton.mp hx]
          refine ⟨hu, hw, huw, fun i e => ?_, fun i e => ?_, .inl (by simp)⟩
          · cases e; exact hth
          · simp only at e
            split at e
            · cases e
            · cases e; omega
    · rintro σ H5 ⟨y5, y6, y7, y8, vs, rs, rfl, k5, e5, d5, l5, o5⟩
      have k05 : Keep [] H H5 := k04.past k5 nrl
      have hn5 := k5 _ _ (nin1 hnm) hn4
      have hr5 := k5 _ _ (nin1 hrr) hr4
      unfold t__law_lined_r1
      walk_at "sx"
      refine e_stepL.mpr ?_
      walk_at "sx"
      refine ⟨by walk_at "sz", fun l8 H8 n8 k8 e8 => ?_⟩
      refine g_ixL (k8 _ _ nin0 hr5) (at_lit 18 rfl e18) ?_
      walk_at "sx"
      obtain ⟨v, hv, sv⟩ := pm_at (x := x18 / 12)
      refine ⟨⟨by decide, by decide⟩, by decide, g_ixL e8 hv ⟨v, rfl, rl, _, v, rfl, lst_sq (k8 _ _ nin0 e5), rfl, sv, fun rl2 n9 => ?_⟩⟩
      obtain ⟨H9, hH9⟩ : ∃ H9, H9 = upd H8 rl2 (.lst (if v = 1 then vs else vs.reverse)) := ⟨_, rfl⟩
      rw [← hH9]
      have k9 : Keep [] H8 H9 := hH9 ▸ Keep.new n9
      have e9 : H9 rl2 = some (.lst (if v = 1 then vs else vs.reverse)) := by rw [hH9]; exact upd_same
      obtain ⟨vs2, rs2, e9', d9, l9, o9⟩ : ∃ vs2 rs2, H9 rl2 = some (.lst vs2) ∧ RdsAt H9 vs2 rs2 ∧ rs2.length = 9 ∧ ∀ x ∈ rs2, RdOk ys x := by
        have d9 := (d5.keep k8 noTup0).keep k9 noTup0
        rcases sv with rfl | rfl
        · exact ⟨vs, rs, e9, d9, l5, o5⟩
        · exact ⟨vs.reverse, rs.reverse, e9, rds_rev d9, by rw [List.length_reverse]; exact l5, fun x hx => o5 x (List.mem_reverse.mp hx)⟩
      have k59 := k8.trans k9
      have hn9 := k59 _ _ nin0 hn5
      refine g_tupleL hn9 fun t1 H10 n10 k10 t10 => g_tupleL (k10 _ _ nin0 e9') fun t2 H11 n11 k11 t11 => ?_
      refine g_ixL ((k59.trans (k10.trans k11)) _ _ nin0 hr5) (at_lit 13 rfl e13) ?_
      walk_at "sx"
      have hc5 : 0 ≤ x13 % 5 ∧ x13 % 5 < 5 := ⟨Int.emod_nonneg _ (by decide), Int.emod_lt_of_pos _ (by decide)⟩
      refine ⟨by decide, g_slL (lst_sq ((k10.trans k11) _ _ nin0 hn9)) fun sl H12 n12 k12 e12' => ?_⟩
      have hcut : cutV (ys.map V.str) none (some (1 + x13 % 5)) = (ys.take (1 + (x13 % 5).toNat)).map V.str := by
        rw [cut_map, show (1 + x13 % 5 : Int) = ((1 + (x13 % 5).toNat : Nat) : Int) by omega, HT.sIx_nat, show min (1 + (x13 % 5).toNat) ys.length = 1 + (x13 % 5).toNat by omega]
        rfl
      rw [hcut] at e12'
      refine g_tupleL e12' fun t3 H13 n13 k13 t13 => ?_
      have k911 := k10.trans (k11.trans (k12.trans k13))
      have hT13 := hT.keep ((k2.trans (k3.trans k4)).past (k5.trans (k59.trans k911).all) nrl1) noTup0
      obtain ⟨ap, ar, as, rv, g1, g2, g3, g4, g5⟩ := hT13
      refine g_ixT g1 (at_lit 3 rfl rfl) ⟨by walk_at "sz", fun p H14 n14 k14 t14 => ?_⟩
      refine q p H14 ⟨ys, rs2, ys.take (1 + (x13 % 5).toNat), T.reach⟩ (k05.trans (k59.trans (k911.trans k14))) ⟨t1, t2, t3, vs2, t14, t10.keep (k11.trans (k12.trans (k13.trans k14))) nin0, t11.keep (k12.trans (k13.trans k14)) nin0, d9.keep (k911.trans k14) noTup0, t13.keep k14 nin0⟩
        ⟨by show 1 ≤ ys.length; omega, by show ys.length ≤ 10; omega, nd, oky, by show rs2.length ≤ 18; omega, o9, by show 1 ≤ (ys.take _).length; rw [List.length_take]; omega, by show (ys.take _).length ≤ 5; rw [List.length_take]; omega, (List.take_sublist _ _).nodup nd, fun y hy => List.mem_of_mem_take hy, ok.re0, ok.re1⟩
  · rw [if_pos (by simp [h6])]
    exact q t H2 T (k1.trans k2) (hT.keep k2 noTup0) ok


/-! ### what is within -/
def wh : V → Option Int
  | .int i => some i
  | _ => none
def inR (v : V) (lo hi : Int) : Bool := match v with
  | .int i => decide (lo ≤ i) && decide (i ≤ hi)
  | _ => false
/-- a thing of a kind that isinstance knows -/
inductive Kd (K : PySem.W.Frag) (H : Hp) : V → Prop
  | non : Kd K H .non
  | bl (b : Bool) : Kd K H (.bl b)
  | int (i : Int) : Kd K H (.int i)
  | str (x : Str) : Kd K H (.str x)
  | lst {a : Addr} {xs : List V} : H a = some (.lst xs) → Kd K H (.ref a)
  | tup {a : Addr} {xs : List V} : Tup H a xs → Kd K H (.ref a)
  | dic {a : Addr} {xs : List (Key × V)} : H a = some (.dK xs) → Kd K H (.ref a)
theorem Kd.keep {K : PySem.W.Frag} {H H' : Hp} {v : V} (h : Kd K H v) (k : Keep [] H H') : Kd K H' v := by
  cases h with
  | non => exact .non
  | bl b => exact .bl b
  | int i => exact .int i
  | str x => exact .str x
  | lst e => exact .lst (k _ _ nin0 e)
  | tup e => exact .tup (e.keep k nin0)
  | dic e => exact .dic (k _ _ nin0 e)
def isIntB : V → Bool
  | .int _ => true
  | .bl _ => true
  | _ => false
def isBoolB : V → Bool
  | .bl _ => true
  | _ => false
theorem g_isInt {K : PySem.W.Frag} {H : Hp} {v : V} {Q : VK} (h : Kd K H v) (q : Q (.bl (isIntB v)) H) : rIsi K [v, .ty "int"] H Q := by
  cases h with
  | int i => exact g_isi (.base (.int i)) kit_int_int q
  | bl b => exact g_isi (.base (.bl b)) kit_bool_int q
  | non => exact g_isi (.base .non) kit_none_int q
  | str x => exact g_isi (.base (.str x)) kit_str_int q
  | lst e => exact g_isi (.base (.lst e)) kit_list_int q
  | tup e => exact g_isi (ty_tup e) kit_tuple_int q
  | dic e => exact g_isi (.base (.dK e)) kit_dict_int q
theorem g_isBool {K : PySem.W.Frag} {H : Hp} {v : V} {Q : VK} (h : Kd K H v) (q : Q (.bl (isBoolB v)) H) : rIsi K [v, .ty "bool"] H Q := by
  cases h with
  | int i => exact g_isi (.base (.int i)) kit_int_bool q
  | bl b => exact g_isi (.base (.bl b)) kit_bool_bool q
  | non => exact g_isi (.base .non) kit_none_bool q
  | str x => exact g_isi (.base (.str x)) kit_str_bool q
  | lst e => exact g_isi (.base (.lst e)) kit_list_bool q
  | tup e => exact g_isi (ty_tup e) kit_tuple_bool q
  | dic e => exact g_isi (.base (.dK e)) kit_dict_bool q
def spWhole (K : PySem.W.Frag) : Sp := fun vs H Q _ => ∃ v, vs = [v] ∧ Kd K H v ∧ Q (.bl (wh v).isSome) H
theorem rd_whole (K : PySem.W.Frag) : ∀ vs H Q E, spWhole K vs H Q E → run (t_is_whole K) (L2.start N_is_whole vs) H Q := by
  rintro _ H Q _ ⟨v, rfl, hv, q⟩
  show run (t_is_whole K) [some v] H Q
  unfold t_is_whole
  walk_at "sx"
  refine g_isInt hv ⟨_, rfl, ?_⟩
  have hb := g_isBool (Q := fun x H1 => ∃ k, TruV K x H1 k ∧ Q (V.bl !k) H1) hv
  cases v with
  | int i => exact hb ⟨_, rfl, q⟩
  | bl i => exact hb ⟨_, rfl, q⟩
  | _ => exact q
def spWithin (K : PySem.W.Frag) : Sp := fun vs H Q _ => ∃ v lo hi, vs = [v, .int lo, .int hi] ∧ Kd K H v ∧ Q (.bl (inR v lo hi)) H
theorem rd_within (K : PySem.W.Frag) : ∀ vs H Q E, spWithin K vs H Q E → run (t_is_within K (spWhole K)) (L2.start N_is_within vs) H Q := by
  rintro _ H Q _ ⟨v, lo, hi, rfl, hv, q⟩
  show run (t_is_within K (spWhole K)) [some v, some (.int lo), some (.int hi)] H Q
  unfold t_is_within
  walk_at "sx"
  refine ⟨v, rfl, hv, ?_⟩
  walk_at "sx"
  cases v with
  | int i =>
    simp only [wh, Option.isSome_some, if_true]
    walk_at "sx"
    by_cases h : lo ≤ i <;> simpa [h, inR, e_rI0] using q
  | _ => exact q
/-! ### ways -/
theorem kit_int_tuple : kitB "int" "tuple" = some false := by decide +kernel
theorem kit_bool_tuple : kitB "bool" "tuple" = some false := by decide +kernel
theorem kit_str_tuple : kitB "str" "tuple" = some false := by decide +kernel
theorem kit_none_tuple : kitB "NoneType" "tuple" = some false := by decide +kernel
theorem kit_list_tuple : kitB "list" "tuple" = some false := by decide +kernel
theorem kit_tuple_tuple : kitB "tuple" "tuple" = some true := by decide +kernel
theorem kit_dict_tuple : kitB "dict" "tuple" = some false := by decide +kernel
/-- a thing of a kind, no tuple -/
inductive Kn (K : PySem.W.Frag) (H : Hp) : V → Prop
  | non : Kn K H .non
  | bl (b : Bool) : Kn K H (.bl b)
  | int (i : Int) : Kn K H (.int i)
  | str (x : Str) : Kn K H (.str x)
  | lst {a : Addr} {xs : List V} : H a = some (.lst xs) → Kn K H (.ref a)
  | dic {a : Addr} {xs : List (Key × V)} : H a = some (.dK xs) → Kn K H (.ref a)
theorem g_isTupN {K : PySem.W.Frag} {H : Hp} {v : V} {Q : VK} (h : Kn K H v) (q : Q (.bl false) H) : rIsi K [v, .ty "tuple"] H Q := by
  cases h with
  | int i => exact g_isi (.base (.int i)) kit_int_tuple q
  | bl b => exact g_isi (.base (.bl b)) kit_bool_tuple q
  | non => exact g_isi (.base .non) kit_none_tuple q
  | str x => exact g_isi (.base (.str x)) kit_str_tuple q
  | lst e => exact g_isi (.base (.lst e)) kit_list_tuple q
  | dic e => exact g_isi (.base (.dK e)) kit_dict_tuple q
/-- one step of a way: the road's number i, from the place z -/
def goI (T : Tn) (zs : List Int) (z : Str) (i : Int) : Option Str := if 0 ≤ i ∧ i < (T.roads.length : Int) ∧ i ∉ zs then (led T i.toNat z).map (·.1) else none
def goV (T : Tn) (zs : List Int) : Str → List V → Option Str
  | z, [] => some z
  | z, .int i :: vs => (goI T zs z i).bind fun y => goV T zs y vs
  | _, _ :: _ => none
theorem goV_snoc {T : Tn} {zs : List Int} {i : Int} : ∀ {vs : List V} {z : Str}, goV T zs z (vs ++ [.int i]) = (goV T zs z vs).bind fun y => goI T zs y i
  | [], z => by
    show (goI T zs z i).bind (fun y => some y) = goI T zs z i
    cases goI T zs z i <;> rfl
  | .int j :: vs, z => by
    show (goI T zs z j).bind (fun y => goV T zs y (vs ++ [.int i])) = ((goI T zs z j).bind fun y => goV T zs y vs).bind fun y => goI T zs y i
    cases goI T zs z j with
    | none => rfl
    | some y => exact goV_snoc (vs := vs) (z := y)
  | .non :: vs, z => rfl
  | .bl _ :: vs, z => rfl
  | .str _ :: vs, z => rfl
  | .ref _ :: vs, z => rfl
  | .byt _ :: vs, z => rfl
  | .ty _ :: vs, z => rfl
  | .flt _ :: vs, z => rfl
def spIsWay (K : PySem.W.Frag) : Sp := fun vs H Q _ => ∃ (t sh : Addr) (z g : Str) (v : V) (T : Tn) (zs : List Int), vs = [.ref t, .ref sh, .str z, .str g, v] ∧ TnAt H t T ∧ Tup H sh (zs.map V.int) ∧
  ((Kn K H v ∧ Q (.bl false) H) ∨ ∃ a es, v = .ref a ∧ Tup H a es ∧ (∀ e ∈ es, Kd K H e) ∧ ∀ H', Keep [] H H' → Q (.bl (decide (goV T zs z es = some g))) H')
theorem drop_cons {xs : List V} {i : Nat} {x : V} (h : xs[i]? = some x) : xs.drop i = x :: xs.drop (i + 1) := by
  obtain ⟨h1, h2⟩ := List.getElem?_eq_some_iff.mp h
  rw [List.drop_eq_getElem_cons h1, h2]
theorem g_inT {K : PySem.W.Frag} {p : Addr} {i : Int} {zs : List Int} {H : Hp} {Q : VK} (h : Tup H p (zs.map V.int)) (q : Q (.bl (decide (i ∈ zs))) H) : uIn K false (.int i) (.ref p) H Q :=
  .inl ⟨p, _, rfl, .inr h.sq, rfl, flat_ints zs, by rw [if_neg (by decide), inV_int]; exact q⟩
theorem rd_isway (K : PySem.W.Frag) : ∀ vs H Q E, spIsWay K vs H Q E → run (t_is_way K (spWithin K) spLed) (L2.start N_is_way vs) H Q := by
  rintro _ H Q _ ⟨t, sh, z, g, v, T, zs, rfl, hT, hz, hv⟩
  show run (t_is_way K (spWithin K) spLed) [some (.ref t), some (.ref sh), some (.str z), some (.str g), some v, none, none, none] H Q
  unfold t_is_way
  walk_at "sx"
  rcases hv with ⟨hv, q⟩ | ⟨a, es, rfl, ha, hk, q⟩
  · refine g_isTupN hv ?_
    walk_at "sx"
    exact q
  refine g_isi (ty_tup ha) kit_tuple_tuple ?_
  walk_at "sx"
  unfold t_is_way_r4
  walk_at "sx"
  refine g_FT (fun i σ H' => ∃ p y6 y7, σ = [some (.ref t), some (.ref sh), some (.str z), some (.str g), some (.ref a), some (.str p), y6, y7] ∧ Keep [] H H' ∧ goV T zs z es = goV T zs p (es.drop i)) ha ⟨z, _, _, rfl, Keep.refl _ _, rfl⟩ ?_ ?_ ?_
  · rintro i σ H' _ ⟨_, _, _, _, k', _⟩
    exact ha.keep k' nin0
  · rintro i x σ H1 hx ⟨p, y6, y7, rfl, k1, eg⟩
    have hkx := (hk x (List.mem_of_getElem? hx)).keep k1
    rw [drop_cons hx] at eg
    have hT1 := hT.keep k1 noTup0
    obtain ⟨ap, ar, as, rv, g1, g2, g3, g4, g5⟩ := hT1
    have hT1 : TnAt H1 t T := ⟨ap, ar, as, rv, g1, g2, g3, g4, g5⟩
    unfold t_is_way_b1
    walk_at "sx"
    refine g_ixT g1 (at_lit 1 rfl rfl) (g_lenT g3 ?_)
    walk_at "sx"
    rw [g4.len]
    refine ⟨x, _, _, rfl, hkx, ?_⟩
    have no : goV T zs p (x :: es.drop (i + 1)) = none → Q (.bl false) H1 := fun h0 => by
      have := q H1 k1
      rw [eg, h0] at this
      exact this
    have out : inR x 0 ((T.roads.length : Int) - 1) = false → Q (.bl false) H1 := fun h0 => no <| by
      cases x with
      | int j =>
        show (goI T zs p j).bind _ = none
        unfold goI
        unfold inR at h0
        simp only [Bool.and_eq_false_iff, decide_eq_false_iff_not] at h0
        rw [if_neg fun h => by omega]
        rfl
      | _ => rfl
    by_cases hin : inR x 0 ((T.roads.length : Int) - 1) = true
    · rw [hin]
      walk_at "sx"
      cases x with
      | int j =>
        unfold inR at hin
        simp only [Bool.and_eq_true, decide_eq_true_eq] at hin
        refine g_inT (hz.keep k1 nin0) ?_
        by_cases hj : j ∈ zs
        · rw [decide_eq_true hj]
          walk_at "sx"
          refine no ?_
          show (goI T zs p j).bind _ = none
          unfold goI
          rw [if_neg fun h => h.2.2 hj]
          rfl
        · rw [decide_eq_false hj]
          walk_at "sx"
          have hgo : goI T zs p j = (led T j.toNat p).map (·.1) := if_pos ⟨by omega, by omega, hj⟩
          have eg' : goV T zs p (.int j :: es.drop (i + 1)) = (goI T zs p j).bind fun y => goV T zs y (es.drop (i + 1)) := rfl
          rw [eg', hgo] at eg no
          unfold t_is_way_r2
          walk_at "sx"
          refine ⟨t, j.toNat, p, T, by rw [Int.toNat_of_nonneg hin.1], hT1, by omega, fun h0 => ?_, fun y m h0 b H2 k2 t2 => ?_⟩
          · walk_at "sx"
            rw [h0] at no
            exact no rfl
          · walk_at "sx"
            unfold t_is_way_r1
            walk_at "sx"
            rw [h0] at eg
            rw [if_neg (fun e => nomatch e)]
            refine g_ixT t2 (at_lit 0 rfl rfl) ⟨y, _, _, rfl, k1.trans k2, ?_⟩
            rw [eg]
            rfl
      | _ => cases hin
    · rw [Bool.not_eq_true] at hin
      rw [hin]
      walk_at "sx"
      exact out hin
  · rintro σ H1 ⟨p, y6, y7, rfl, k1, eg⟩
    unfold t_is_way_r3
    walk_at "sx"
    refine g_eq rfl ?_
    rw [dec_strV]
    have := q H1 k1
    rw [eg, List.drop_length] at this
    have e2 : decide (goV T zs p [] = some g) = decide (p = g) := by
      show decide (some p = some g) = _
      simp
    rw [e2] at this
    exact this
def spMin : Sp := fun vs H Q _ => ∃ (t rs : Addr) (z : Str) (T : Tn) (ks : List Nat) (P : Nat → Str) (M : Nat → Int), vs = [.ref t, .str z, .ref rs] ∧ TnAt H t T ∧ Tup H rs (ks.map fun k => V.int (k : Nat)) ∧ P 0 = z ∧
  (∀ i k, ks[i]? = some k → led T k (P i) = some (P (i + 1), M (i + 1) - M i)) ∧ ∀ H', Keep [] H H' → Q (.int (M ks.length - M 0)) H'
theorem rd_min (K : PySem.W.Frag) : ∀ vs H Q E, spMin vs H Q E → run (t_minutes_of K spLed) (L2.start N_minutes_of vs) H Q := by
  rintro _ H Q _ ⟨t, rs, z, T, ks, P, M, rfl, hT, hks, rfl, hp, q⟩
  show run (t_minutes_of K spLed) [some (.ref t), some (.str (P 0)), some (.ref rs), none, none, none, none] H Q
  unfold t_minutes_of
  walk_at "sx"
  refine g_FT (fun i σ H' => ∃ y5 y6, σ = [some (.ref t), some (.str (P 0)), some (.ref rs), some (.int (M i - M 0)), some (.str (P i)), y5, y6] ∧ Keep [] H H') hks ⟨_, _, by rw [show M 0 - M 0 = 0 by omega], Keep.refl _ _⟩ ?_ ?_ ?_
  · rintro i σ H' _ ⟨_, _, _, k'⟩
    exact hks.keep k' nin0
  · rintro i x σ H1 hx ⟨y5, y6, rfl, k1⟩
    rw [List.getElem?_map] at hx
    cases hk : ks[i]? with
    | none => rw [hk] at hx; cases hx
    | some k =>
      rw [hk] at hx
      cases hx
      have hl := hp i k hk
      unfold t_minutes_of_b1
      walk_at "sx"
      refine ⟨t, k, P i, T, rfl, hT.keep k1 noTup0, led_lt hl, fun e => (by rw [hl] at e; cases e), fun y m e p H2 k2 t2 => ?_⟩
      obtain ⟨rfl, rfl⟩ : P (i + 1) = y ∧ M (i + 1) - M i = m := by
        rw [hl] at e
        simpa using e
      refine g_tup t2 rfl ?_
      walk_at "sx"
      refine ⟨_, _, rfl, _, _, rfl, rfl, ?_⟩
      walk_at "sx"
      refine ⟨_, rfl, _, rfl, _, _, rfl, rfl, some (.int (k : Nat)), some (.int (M (i + 1) - M i)), ?_, k1.trans k2⟩
      show [_, _, _, some (V.int (M i - M 0 + (M (i + 1) - M i))), _, _, _] = _
      rw [show M i - M 0 + (M (i + 1) - M i) = M (i + 1) - M 0 by omega]
  · rintro σ H1 ⟨y5, y6, rfl, k1⟩
    unfold t_minutes_of_r1
    walk_at "sx"
    rw [List.length_map]
    exact q H1 k1


/-! ### first ways -/
theorem steps_60 {T : Tn} {zs : List Int} {n : Nat} (ok : TnOk T) : ∀ s ∈ stepsTo T zs n, s.m ≤ 60 ∧ (s.k : Int) ∉ zs := fun s hs => by
  obtain ⟨k, _, hk⟩ := List.mem_flatMap.mp hs
  unfold stepsAt at hk
  cases e : T.roads[k]? with
  | none => rw [e] at hk; cases hk
  | some r =>
    rw [e] at hk
    have ro := ok.rd _ (List.mem_of_getElem? e)
    simp only at hk
    split at hk
    · cases hk
    · rename_i hz
      rcases List.mem_append.mp hk with h | h
      · unfold thereOf at h
        cases ht : r.there with
        | none => rw [ht] at h; cases h
        | some m =>
          rw [ht] at h
          rw [List.mem_singleton.mp h]
          exact ⟨(ro.there m ht).2, hz⟩
      · unfold backOf at h
        cases ht : r.back with
        | none => rw [ht] at h; cases h
        | some m =>
          rw [ht] at h
          rw [List.mem_singleton.mp h]
          exact ⟨(ro.back m ht).2, hz⟩
theorem ew_le {sts : List Stp} (hm : ∀ s ∈ sts, s.m ≤ 60) {e h g : Nat} {L : Int} (w : Ew sts e h g L) : L ≤ 60 * (e : Int) := by
  induction w with
  | nil => simp
  | cons hs _ ih => have := hm _ hs; omega
theorem ew_wl {sts : List Stp} {n : Nat} (hb : ∀ s ∈ sts, s.a < n ∧ s.b < n) {e h g : Nat} {L : Int} (w : Ew sts e h g L) : Wl sts n h g L := by
  induction w with
  | nil => exact .nil _
  | cons hs _ ih => exact .cons hs (hb _ hs).2 ih
theorem cht_bound {sts : List Stp} {n : Nat} {D : Tab} (c : Cht sts n D) (hm : ∀ s ∈ sts, 1 ≤ s.m) (h60 : ∀ s ∈ sts, s.m ≤ 60) (hb : ∀ s ∈ sts, s.a < n ∧ s.b < n) {g h : Nat} {d : Int} (hg : g < n) (hh : h < n) (e : D g h = some d) : d ≤ 60 * (n : Int) := by
  obtain ⟨k, L, hk, _, we⟩ := (wi_of hb (c.sn g h d e) hh).short hm _ _ (Nat.le_refl _)
  rw [List.length_range] at hk
  obtain ⟨d', e', l'⟩ := c.lo h g L hh hg (ew_wl hb we)
  have := ew_le h60 we
  rw [e] at e'
  cases e'
  omega
inductive Fw (sts : List Stp) (D : Tab) (g : Nat) : Nat → List Nat → Prop
  | nil : Fw sts D g g []
  | cons {h : Nat} {s : Stp} {ks : List Nat} : h ≠ g → sts.find? (fstP D h g) = some s → Fw sts D g s.b ks → Fw sts D g h (s.k :: ks)
theorem fst_some {sts : List Stp} {D : Tab} {h g : Nat} {s : Stp} (f : sts.find? (fstP D h g) = some s) : s ∈ sts ∧ s.a = h ∧ ∃ e, D g s.b = some e ∧ D g h = some (e + s.m) := by
  have hp := List.find?_some f
  unfold fstP at hp
  rw [Bool.and_eq_true_iff] at hp
  obtain ⟨h1, h2⟩ := hp
  have h1 := of_decide_eq_true h1
  unfold leastB at h2
  cases e : D g s.b with
  | none => rw [e] at h2; cases h2
  | some v =>
    rw [e] at h2
    have := of_decide_eq_true h2
    exact ⟨List.mem_of_find?_eq_some f, h1, v, rfl, by rw [← h1]; exact this⟩
theorem fst_none {sts : List Stp} {n : Nat} {D : Tab} {h g : Nat} (c : Cht sts n D) (hg : g < n) (hh : h < n) (ne : h ≠ g) (f : sts.find? (fstP D h g) = none) : D g h = none := by
  cases e : D g h with
  | none => rfl
  | some d =>
    obtain ⟨s, hs, ha, v, ev, ed⟩ := c.step g h d hg hh ne e
    have := List.find?_eq_none.mp f s hs
    refine absurd ?_ this
    unfold fstP leastB
    rw [ev, ha, e, ed]
    simp
def spWay : Sp := fun vs H Q _ => ∃ (t sh : Addr) (h g : Nat) (T : Tn) (zs : List Int), vs = [.ref t, .ref sh, .str (plOf T h), .str (plOf T g)] ∧ TnAt H t T ∧ TnOk T ∧ Tup H sh (zs.map V.int) ∧ h < T.places.length ∧ g < T.places.length ∧
  ∀ H' D, Keep [] H H' → Cht (stepsTo T zs T.roads.length) T.places.length D → (D g h = none → Q .non H') ∧ ∀ p ks d, D g h = some d → Tup H' p (ks.map fun k : Nat => V.int (k : Nat)) → Fw (stepsTo T zs T.roads.length) D g h ks → Q (.ref p) H'
theorem rd_way (K : PySem.W.Frag) : ∀ vs H Q E, spWay vs H Q E → run (t_way K spChartOf spFirst spLed) (L2.start N_way vs) H Q := by
  rintro _ H Q _ ⟨t, sh, h, g, T, zs, rfl, hT, ok, hz, hh, hg, q⟩
  show run (t_way K spChartOf spFirst spLed) [some (.ref t), some (.ref sh), some (.str (plOf T h)), some (.str (plOf T g)), none, none, none, none] H Q
  have p10 := ok.p10
  have hpos := steps_pos (zs := zs) (n := T.roads.length) ok
  have h60 := steps_60 (zs := zs) (n := T.roads.length) ok
  have hso : ∀ s ∈ stepsTo T zs T.roads.length, s.a < T.places.length ∧ s.b < T.places.length := fun s hs => by
    have := stepsTo_ok ok hs
    exact ⟨this.a, this.b⟩
  unfold t_way
  walk_at "sx"
  refine ⟨t, sh, T, zs, rfl, hT, ok, hz, fun c H1 D k1 hC hct => ?_⟩
  walk_at "sx"
  refine ⟨by walk_at "sz", fun l H2 n2 k2 e2 => ?_⟩
  walk_at "sx"
  have k02 := k1.trans k2
  have nl : H l = none := k1.free nin0 n2
  have W0 : ∃ m, ((h = h ∧ D g h = none ∧ m = 0) ∨ ∃ d : Int, D g h = some d ∧ (∃ d0, D g h = some d0) ∧ m = d.toNat ∧ 0 + m ≤ 600) := by
    cases e : D g h with
    | none => exact ⟨0, .inl ⟨rfl, rfl, rfl⟩⟩
    | some d =>
      have := cht_bound hct hpos (fun s hs => (h60 s hs).1) hso hg hh e
      exact ⟨d.toNat, .inr ⟨d, rfl, ⟨d, rfl⟩, rfl, by omega⟩⟩
  obtain ⟨m0, w0⟩ := W0
  refine ⟨fun m σ H' => ∃ (x : Nat) (ns : List Nat) (y7 : Option V), σ = [some (.ref t), some (.ref sh), some (.str (plOf T h)), some (.str (plOf T g)), some (.ref c), some (.ref l), some (.str (plOf T x)), y7] ∧ Keep [l] H2 H' ∧ H' l = some (.lst (ns.map fun k : Nat => V.int (k : Nat))) ∧ x < T.places.length ∧
    (∀ ks, Fw (stepsTo T zs T.roads.length) D g x ks → Fw (stepsTo T zs T.roads.length) D g h (ns ++ ks)) ∧ ((x = h ∧ D g h = none ∧ m = 0) ∨ ∃ d : Int, D g x = some d ∧ (∃ d0, D g h = some d0) ∧ m = d.toNat ∧ ns.length + m ≤ 600),
    ⟨m0, h, [], _, rfl, Keep.refl _ _, e2, hh, fun _ h => h, w0⟩, ?_⟩
  rintro m σ H3 ⟨x, ns, y7, rfl, k3, e3, hx, hfw, hst⟩
  have k03 : Keep [] H H3 := k02.past k3 nl
  have hT3 := hT.keep k03 noTup0
  walk_at "sx"
  refine g_ne rfl ⟨_, rfl, ?_⟩
  rw [dec_strV]
  by_cases hxg : x = g
  · rw [hxg, decide_eq_true rfl, if_neg (by decide)]
    unfold t_way_r2
    walk_at "sx"
    refine g_tupleL e3 fun p H4 n4 k4 t4 => ?_
    rw [hxg] at hfw hst
    have hf := hfw [] .nil
    rw [List.append_nil] at hf
    rcases hst with ⟨eg, en, _⟩ | ⟨d, _, ⟨d0, e0⟩, _, _⟩
    · have := hct.d0 g hg
      rw [← eg] at en
      rw [this] at en
      cases en
    · exact (q H4 D (k03.trans k4) hct).2 p ns d0 e0 t4 hf
  · have hne : plOf T x ≠ plOf T g := fun e => hxg (pl_inj' ok.nd hx hg e)
    rw [decide_eq_false hne, if_pos (by decide)]
    refine ⟨fun σ' H' => ∃ m', m' < m ∧ ∃ (x : Nat) (ns : List Nat) (y7 : Option V), σ' = [some (.ref t), some (.ref sh), some (.str (plOf T h)), some (.str (plOf T g)), some (.ref c), some (.ref l), some (.str (plOf T x)), y7] ∧ Keep [l] H2 H' ∧ H' l = some (.lst (ns.map fun k : Nat => V.int (k : Nat))) ∧ x < T.places.length ∧
      (∀ ks, Fw (stepsTo T zs T.roads.length) D g x ks → Fw (stepsTo T zs T.roads.length) D g h (ns ++ ks)) ∧ ((x = h ∧ D g h = none ∧ m' = 0) ∨ ∃ d : Int, D g x = some d ∧ (∃ d0, D g h = some d0) ∧ m' = d.toNat ∧ ns.length + m' ≤ 600), fun σ' H' h => h, ?_⟩
    walk_at "sx"
    refine ⟨t, sh, c, x, g, T, zs, D, rfl, hT3, ok, hz.keep k03 nin0, ChAt.keepS (hC.keep k2) k3 (noTup1 e2), hx, hg, fun H4 k4 => ?_⟩
    walk_at "sx"
    cases hf : (stepsTo T zs T.roads.length).find? (fstP D x g) with
    | none =>
      have hn := fst_none hct hg hx hxg hf
      rw [if_pos (show fstV none = V.non from rfl)]
      rcases hst with ⟨rfl, en, _⟩ | ⟨d, ed, _⟩
      · exact (q H4 D (k03.trans k4) hct).1 en
      · rw [hn] at ed
        cases ed
    | some s =>
      rw [if_neg (show ¬ fstV (some s) = V.non from fun e => nomatch e)]
      obtain ⟨hs, ha, v, ev, exd⟩ := fst_some hf
      have so := stepsTo_ok ok hs
      have hv0 := hct.pos _ _ _ ev
      have m1 := hpos s hs
      unfold t_way_r1
      walk_at "sx"
      have e4 := k4 _ _ nin0 e3
      rcases hst with ⟨rfl, en, _⟩ | ⟨d, ed, hd0, rfl, hlen⟩
      · rw [en] at exd
        cases exd
      · rw [ed] at exd
        cases exd
        refine ⟨.inl ⟨rfl, _, .inl (.inl e4)⟩, g_append e4 (by rw [List.length_map]; exact len_lt (by omega)) fun H5 k5 e5 => ?_⟩
        have go := so.go
        rw [ha] at go
        have kk : Keep [] H H5 := k02.past (k3.trans (k4.all.trans k5)) nl
        refine ⟨t, s.k, plOf T x, T, rfl, hT.keep kk noTup0, so.k, ?_, ?_⟩
        · intro e
          rw [go] at e
          cases e
        intro y mm e p H6 k6 t6
        rw [go] at e
        cases e
        refine g_ixT t6 (at_lit 0 rfl rfl) ?_
        walk_at "sx"
        refine ⟨v.toNat, by omega, s.b, ns ++ [s.k], _, rfl, k3.trans (k4.all.trans (k5.trans k6.all)), ?_, so.b, fun ks hk => ?_, .inr ⟨v, ev, hd0, rfl, by simp; omega⟩⟩
        · have := k6 _ _ nin0 e5
          rw [List.map_append]
          exact this
        · rw [List.append_assoc]
          exact hfw _ (.cons hxg hf hk)
/-! ### things in a row -/
abbrev EI {α β : Type} (R : α → β → Prop) (vs : List α) (rs : List β) : Prop := PySem.W.EachIs R vs rs
theorem ei_snoc {α β : Type} {R : α → β → Prop} {v : α} {r : β} (h : R v r) : ∀ {vs : List α} {rs : List β}, EI R vs rs → EI R (vs ++ [v]) (rs ++ [r])
  | _, _, .nil => .cons h .nil
  | _, _, .cons h' q => .cons h' (ei_snoc h q)
theorem ei_get {α β : Type} {R : α → β → Prop} : ∀ {vs : List α} {rs : List β} {i : Nat} {r : β}, EI R vs rs → rs[i]? = some r → ∃ v, vs[i]? = some v ∧ R v r
  | _, _, _, _, .nil, e => by simp at e
  | _, _, 0, _, .cons (a := p) h _, e => by
    simp at e
    subst e
    exact ⟨p, rfl, h⟩
  | _, _, i + 1, _, .cons _ q, e => by
    obtain ⟨p, h1, h2⟩ := ei_get (i := i) q (by simpa using e)
    exact ⟨p, by simpa using h1, h2⟩
theorem ei_got {α β : Type} {R : α → β → Prop} {vs : List α} {rs : List β} {i : Nat} {v : α} (h : EI R vs rs) (e : vs[i]? = some v) : ∃ r, rs[i]? = some r ∧ R v r := by
  have hi : i < rs.length := by rw [← h.length]; exact (List.getElem?_eq_some_iff.mp e).1
  obtain ⟨v', h1, h2⟩ := ei_get h (List.getElem?_eq_getElem hi)
  rw [e] at h1
  cases h1
  exact ⟨_, List.getElem?_eq_getElem hi, h2⟩
def NoT (S : List Addr) (H : Hp) : Prop := ∀ a ∈ S, H a = none ∨ ∃ xs, H a = some (.lst xs)
theorem sqt_keep {K : PySem.W.Frag} {S : List Addr} {H H' : Hp} {a : Addr} {xs : List V} (h : SqT K H a xs) (k : Keep S H H') (n : NoT S H) : SqT K H' a xs := by
  have na : ∀ {o : HO}, H a = some o → (∀ ys, o ≠ .lst ys) → a ∉ S := fun e ne hm => by
    rcases n a hm with z | ⟨ys, z⟩
    · rw [e] at z; cases z
    · rw [e] at z; cases z; exact ne _ rfl
  rcases h with (h | ⟨o, h⟩) | h
  · exact .inl (.inl (k _ _ (na h fun ys z => nomatch z) h))
  · exact .inl (.inr ⟨o, k _ _ (na h fun ys z => nomatch z) h⟩)
  · exact .inr h
theorem noT0 {H : Hp} : NoT [] H := fun _ h => (List.not_mem_nil h).elim
theorem noT1 {H : Hp} {l : Addr} {xs : List V} (h : H l = some (.lst xs)) : NoT [l] H := fun a ha => .inr ⟨xs, by rw [List.mem_singleton.mp ha]; exact h⟩
theorem noTn {H : Hp} {l : Addr} (h : H l = none) : NoT [l] H := fun a ha => .inl (by rw [List.mem_singleton.mp ha]; exact h)
theorem NoT.tup {S : List Addr} {H : Hp} (n : NoT S H) : NoTup S H := fun a xs t ha => by
  rcases n a ha with z | ⟨ys, z⟩
  · obtain ⟨o, e⟩ := t.there
    rw [e] at z; cases z
  · exact t.neL z rfl
/-- a list or a tuple that stands still -/
def Sq (H : Hp) (a : Addr) (xs : List V) : Prop := H a = some (.lst xs) ∨ Tup H a xs
theorem Sq.keep {S : List Addr} {H H' : Hp} {a : Addr} {xs : List V} (h : Sq H a xs) (k : Keep S H H') (n : a ∉ S) : Sq H' a xs := h.elim (fun h => .inl (k _ _ n h)) fun h => .inr (h.keep k n)
theorem Sq.there {H : Hp} {a : Addr} {xs : List V} (h : Sq H a xs) : ∃ o, H a = some o := h.elim (fun h => ⟨_, h⟩) fun h => h.there
/-- a comprehension over a list or tuple of things -/
theorem g_CE {K : PySem.W.Frag} {α : Type} {RR : Hp → V → α → Prop} {g : TG} {tt : TT} {te : TE} {vs : List Nat} {σ : L2.St} {H1 : Hp} {Q : VK} {a : Addr} {xs : List V} {rs : List α} (hx : Sq H1 a xs) (he : EI (RR H1) xs rs)
    (hk : ∀ H H' x r, RR H x r → Keep [] H H' → RR H' x r) (P : Nat → Hp → List V → Prop) (p0 : ∀ D H2, H1 D = none → Keep [] H1 H2 → P 0 H2 [])
    (ps : ∀ D i x r H acc (R : VK) (R0 : Hp → Prop), H1 D = none → rs[i]? = some r → Keep [] H1 H → H D = some (.lst acc) → RR H x r → P i H acc →
      (∀ y H4, Keep [] H H4 → acc.length < sizeLine → (∀ H5, Keep [D] H4 H5 → P (i + 1) H5 (acc ++ [y])) → R y H4) → (∀ H3, Keep [] H H3 → P (i + 1) H3 acc → R0 H3) →
      g x (wipe σ vs) H fun σ2 H2 => wipe σ2 vs = wipe σ vs ∧ tt σ2 H2 fun b H3 => if b = true then te σ2 H3 R else R0 H3)
    (pd : ∀ D H acc, H1 D = none → Keep [] H1 H → H D = some (.lst acc) → P rs.length H acc → Q (.ref D) H) : CU K g tt te vs σ Q (.ref a) H1 := by
  have L : CLoop [] xs.length (fun i => xs.getD i .non) g tt te vs σ H1 Q := by
    refine ⟨P, p0, fun D i H acc R R0 nD hi k e p hR hR0 => ?_, fun D H acc n k e p => pd D H acc n k e (by rw [← he.length]; exact p)⟩
    obtain ⟨r, e1, e2⟩ := ei_got he (List.getElem?_eq_getElem hi)
    have e3 : xs.getD i .non = xs[i] := by rw [List.getD_eq_getElem?_getD, List.getElem?_eq_getElem hi]; rfl
    show g (xs.getD i .non) _ _ _
    rw [e3]
    exact ps D i _ r H acc R R0 nD e1 k e (hk _ _ _ _ e2 k) p hR hR0
  exact hx.elim (fun h => g_CL (S := []) (fun _ h => (List.not_mem_nil h).elim) h nin0 L) fun h => g_CT (S := []) (fun _ h => (List.not_mem_nil h).elim) h nin0 L
/-- a for over a list or tuple of things -/
theorem g_FEs {K : PySem.W.Frag} {α : Type} {RR : Hp → V → α → Prop} {g : TG} {tb : TS} {D : Ends} {σ : L2.St} {H1 : Hp} {a : Addr} {xs : List V} {rs : List α} (S : List Addr) (hx : Sq H1 a xs) (na : a ∉ S) (he : EI (RR H1) xs rs)
    (hk : ∀ H' x r, RR H1 x r → Keep S H1 H' → RR H' x r) (Pv : Nat → L2.St → Hp → Prop) (h0 : Pv 0 σ H1)
    (hs : ∀ i x r σ H, rs[i]? = some r → Keep S H1 H → RR H x r → Pv i σ H → g x σ H fun σ2 H2 => tb { D with nx := fun σ' H' => Keep S H1 H' ∧ Pv (i + 1) σ' H', ct := fun σ' H' => Keep S H1 H' ∧ Pv (i + 1) σ' H', bk := D.nx } σ2 H2)
    (hd : ∀ σ H, Keep S H1 H → Pv rs.length σ H → D.nx σ H) : FU K g tb D σ (.ref a) H1 := by
  have hl := he.length
  have st : ∀ (i : Nat) (x : V) (σ : L2.St) (H : Hp), xs[i]? = some x → (Keep S H1 H ∧ Pv i σ H) → g x σ H fun σ2 H2 => tb { D with nx := fun σ' H' => Keep S H1 H' ∧ Pv (i + 1) σ' H', ct := fun σ' H' => Keep S H1 H' ∧ Pv (i + 1) σ' H', bk := D.nx } σ2 H2 := fun i x σ H ex ⟨k, p⟩ => by
    obtain ⟨r, e1, e2⟩ := ei_got he ex
    exact hs i x r σ H e1 k (hk _ _ _ e2 k) p
  rcases hx with h | h
  · exact g_FL (fun i σ H => Keep S H1 H ∧ Pv i σ H) (lst_sq h) ⟨Keep.refl _ _, h0⟩ (fun i σ H _ p => lst_sq (p.1 _ _ na h)) (fun i x σ H ex p => st i x σ H ex p) fun σ H p => hd σ H p.1 (by rw [← hl]; exact p.2)
  · exact g_FT (fun i σ H => Keep S H1 H ∧ Pv i σ H) h ⟨Keep.refl _ _, h0⟩ (fun i σ H _ p => h.keep p.1 na) (fun i x σ H ex p => st i x σ H ex p) fun σ H p => hd σ H p.1 (by rw [← hl]; exact p.2)



/-! ### charts let by: what is first wrong with a square of numbers -/
theorem g_tupX {K : PySem.W.Frag} {p : Addr} {xs : List V} {n : Nat} {t : TGs} {σ : L2.St} {H : Hp} {Q : L2.St → Hp → Prop} (h : Tup H p xs) (l : xs.length = n) (q : t xs σ H Q) : gTup K n t (.ref p) σ H Q := ⟨p, xs, rfl, h.sq, l, q⟩
theorem ChAt.kt {L : List Addr} {H H' : Hp} {c : Addr} {n : Nat} {D : Tab} (h : ChAt H c n D) (ht : Tabs L H) (k : KT L H H') : ChAt H' c n D := by
  obtain ⟨vs, h1, h2, h3⟩ := h
  refine ⟨vs, h1.kt ht k, h2, fun g hg => ?_⟩
  obtain ⟨p, e, t⟩ := h3 g hg
  exact ⟨p, e, t.kt ht k⟩
theorem TnAt.kt {L : List Addr} {H H' : Hp} {a : Addr} {T : Tn} (h : TnAt H a T) (ht : Tabs L H) (k : KT L H H') : TnAt H' a T := h.keep k.k ht.noTup
def slackB (sts : List Stp) (n : Nat) (D : Tab) (p : Nat) : Bool := (List.range n).any fun g => !decide (g = p) && ((D g p).isSome && !(sts.filter fun s => decide (s.a = p)).any (leastB (D g)))
def goalB (D : Tab) (g : Nat) : Bool := !decide (D g g = some 0)
def steepB (n : Nat) (D : Tab) (s : Stp) : Bool := (List.range n).any fun g => stpB (D g) s
def verd (sts : List Stp) (n : Nat) (D : Tab) : Option (Str × Nat) := match (List.range n).find? (goalB D) with
  | some g => some ("goal", g)
  | none => match sts.find? (steepB n D) with
    | some s => some ("steep", s.k)
    | none => match (List.range n).find? (slackB sts n D) with
      | some p => some ("slack", p)
      | none => none
/-- a least chart is let by -/
theorem verd_least {sts : List Stp} {n : Nat} {D : Tab} (hb : ∀ s ∈ sts, s.a < n ∧ s.b < n) (c : Cht sts n D) : verd sts n D = none := by
  unfold verd
  have h1 : (List.range n).find? (goalB D) = none := by
    rw [List.find?_eq_none]
    intro g hg
    have := c.d0 g (List.mem_range.mp hg)
    unfold goalB
    rw [decide_eq_true this]
    decide
  have h2 : sts.find? (steepB n D) = none := by
    rw [List.find?_eq_none]
    intro s hs
    unfold steepB
    rw [Bool.not_eq_true, List.any_eq_false]
    intro g hg
    have hg := List.mem_range.mp hg
    obtain ⟨ha, hb'⟩ := hb s hs
    unfold stpB
    cases e : D g s.b with
    | none => exact Bool.false_ne_true
    | some d =>
      obtain ⟨d', e', l⟩ := c.lo s.a g (s.m + d) ha hg (.cons hs hb' (c.sn g s.b d e))
      dsimp only
      rw [e']
      dsimp only
      rw [decide_eq_false (by omega)]
      decide
  have h3 : (List.range n).find? (slackB sts n D) = none := by
    rw [List.find?_eq_none]
    intro p hp
    have hp := List.mem_range.mp hp
    unfold slackB
    rw [Bool.not_eq_true, List.any_eq_false]
    intro g hg
    have hg := List.mem_range.mp hg
    by_cases hgp : g = p
    · rw [decide_eq_true hgp]
      simp
    cases e : D g p with
    | none => simp
    | some d =>
      obtain ⟨s, hs, ea, e2, hd, hm⟩ := c.step g p d hg hp (fun z => hgp z.symm) e
      have : (sts.filter fun s => decide (s.a = p)).any (leastB (D g)) = true := by
        rw [List.any_eq_true]
        refine ⟨s, List.mem_filter.mpr ⟨hs, decide_eq_true ea⟩, ?_⟩
        unfold leastB
        rw [hd]
        dsimp only
        rw [ea, e]
        exact decide_eq_true (by rw [hm])
      rw [this]
      simp
  rw [h1, h2, h3]
/-! the program's helpers -/
theorem ei_row (n : Nat) (f : Nat → Option Int) : EI (fun v o => v = mV o) (rowV n f) ((List.range n).map f) := by
  unfold rowV
  generalize List.range n = l
  induction l with
  | nil => exact .nil
  | cons a r ih => exact .cons rfl ih
theorem ei_monoX {α β : Type} {R S : α → β → Prop} (f : ∀ v r, R v r → S v r) : ∀ {vs : List α} {rs : List β}, EI R vs rs → EI S vs rs
  | _, _, .nil => .nil
  | _, _, .cons h q => .cons (f _ _ h) (ei_monoX f q)
def entB : V → Bool
  | .non => true
  | .int i => decide (0 ≤ i)
  | _ => false
/-- a row, or not -/
def FtB (K : PySem.W.Frag) (H : Hp) (n : Nat) (v : V) (b : Bool) : Prop := (Kn K H v ∧ b = false) ∨ ∃ a es, v = .ref a ∧ Tup H a es ∧ (∀ e ∈ es, Kd K H e) ∧ b = (decide (es.length = n) && es.all entB)
/-- a square, or not -/
def ThB (K : PySem.W.Frag) (H : Hp) (n : Nat) (v : V) (b : Bool) : Prop := (Kn K H v ∧ b = false) ∨ ∃ a es bs, v = .ref a ∧ Tup H a es ∧ EI (FtB K H n) es bs ∧ b = (decide (es.length = n) && bs.all id)
theorem Kd.kt {K : PySem.W.Frag} {L : List Addr} {H H' : Hp} {v : V} (h : Kd K H v) (k : KT L H H') (ht : Tabs L H) : Kd K H' v := by
  cases h with
  | non => exact .non
  | bl b => exact .bl b
  | int i => exact .int i
  | str x => exact .str x
  | lst e => exact .lst (k.k _ _ (ht.lst e) e)
  | tup e => exact .tup (e.kt ht k)
  | dic e => exact .dic (k.k _ _ (ht.dK e) e)
theorem Kn.kt {K : PySem.W.Frag} {L : List Addr} {H H' : Hp} {v : V} (h : Kn K H v) (k : KT L H H') (ht : Tabs L H) : Kn K H' v := by
  cases h with
  | non => exact .non
  | bl b => exact .bl b
  | int i => exact .int i
  | str x => exact .str x
  | lst e => exact .lst (k.k _ _ (ht.lst e) e)
  | dic e => exact .dic (k.k _ _ (ht.dK e) e)
theorem FtB.kt {K : PySem.W.Frag} {L : List Addr} {H H' : Hp} {n : Nat} {v : V} {b : Bool} (h : FtB K H n v b) (k : KT L H H') (ht : Tabs L H) : FtB K H' n v b := by
  rcases h with ⟨h, e⟩ | ⟨a, es, e, t, kd, eb⟩
  · exact .inl ⟨h.kt k ht, e⟩
  · exact .inr ⟨a, es, e, t.kt ht k, fun x hx => (kd x hx).kt k ht, eb⟩
theorem ThB.kt {K : PySem.W.Frag} {L : List Addr} {H H' : Hp} {n : Nat} {v : V} {b : Bool} (h : ThB K H n v b) (k : KT L H H') (ht : Tabs L H) : ThB K H' n v b := by
  rcases h with ⟨h, e⟩ | ⟨a, es, bs, e, t, ei, eb⟩
  · exact .inl ⟨h.kt k ht, e⟩
  · exact .inr ⟨a, es, bs, e, t.kt ht k, ei_monoX (fun v r h => h.kt k ht) ei, eb⟩
def spIsRow (K : PySem.W.Frag) (L : List Addr) (P : Addr) : Sp := fun vs H Q _ => ∃ (v : V) (n : Nat) (b : Bool), vs = [v, .int (n : Nat)] ∧ FtB K H n v b ∧ Tabs L H ∧ P ∈ L ∧ ∀ H', KT L H H' → Q (.bl b) H'
theorem ei_self {es : List V} {R : V → V → Prop} (h : ∀ e ∈ es, R e e) : EI R es es := by
  induction es with
  | nil => exact .nil
  | cons e es ih => exact .cons (h e List.mem_cons_self) (ih fun x hx => h x (List.mem_cons_of_mem _ hx))
theorem rd_isRow (K : PySem.W.Frag) {L : List Addr} {P : Addr} : ∀ vs H Q E, spIsRow K L P vs H Q E → run (t__is_row K (spWhole K) P) (L2.start N__is_row vs) H Q := by
  rintro _ H Q _ ⟨v, n, b, rfl, hv, ht, hP, q⟩
  show run (t__is_row K (spWhole K) P) [some v, some (.int (n : Nat)), none] H Q
  unfold t__is_row
  walk_at "sx"
  rcases hv with ⟨hv, rfl⟩ | ⟨a, es, rfl, ta, kd, rfl⟩
  · refine g_isTupN hv ⟨false, rfl, ?_⟩
    rw [if_pos (by decide)]
    exact q H (KT.refl _ _)
  refine g_isi (ty_tup ta) kit_tuple_tuple ⟨true, rfl, ?_⟩
  rw [if_neg (by decide)]
  refine g_lenT ta (g_ne rfl ⟨_, rfl, ?_⟩)
  by_cases hl : es.length = n
  · rw [if_neg (by rw [hl]; simp)]
    rw [decide_eq_true hl, Bool.true_and] at q
    unfold t__is_row_r1
    walk_at "sx"
    refine e_genU.mpr ?_
    walk_at "sx"
    refine g_GE (RR := fun H v o => v = o ∧ Kd K H o) entB ht hP (.inr ta.sq) (ei_self fun e he => ⟨rfl, kd e he⟩) (fun H' x r ⟨h1, h2⟩ k => ⟨h1, h2.kt k ht⟩) (fun i x o H1 R R0 e k1 t1 hx hR => ?_) fun H1 k1 => ?_
    · obtain ⟨rfl, hk⟩ := hx
      walk_at "sx"
      cases x with
      | non =>
        rw [if_pos rfl]
        exact hR H1 (KT.refl _ _)
      | int i =>
        rw [if_neg (fun e => nomatch e)]
        refine ⟨_, rfl, hk, ⟨_, rfl, ?_⟩⟩
        rw [if_pos (show (wh (.int i)).isSome = true from rfl)]
        refine e_rI0.mpr ?_
        exact hR H1 (KT.refl _ _)
      | _ =>
        rw [if_neg (fun e => nomatch e)]
        refine ⟨_, rfl, hk, ⟨_, rfl, ?_⟩⟩
        rw [if_neg (by show ¬ (none : Option Int).isSome = true; decide)]
        exact hR H1 (KT.refl _ _)
    · exact q H1 k1
  · rw [if_pos (by simp; omega)]
    rw [decide_eq_false hl, Bool.false_and] at q
    exact q H (KT.refl _ _)
def spShape (K : PySem.W.Frag) (L : List Addr) (P : Addr) : Sp := fun vs H Q _ => ∃ (v : V) (n : Nat) (b : Bool), vs = [v, .int (n : Nat)] ∧ ThB K H n v b ∧ Tabs L H ∧ P ∈ L ∧ ∀ H', KT L H H' → Q (.bl b) H'
theorem ei_ch {H : Hp} {n : Nat} {D : Tab} {vs : List V} (h2 : vs.length = n) (h3 : ∀ g, g < n → ∃ p, vs[g]? = some (.ref p) ∧ Tup H p (rowV n (D g))) : EI (fun v g => ∃ p, v = .ref p ∧ Tup H p (rowV n (D g))) vs (List.range n) := by
  have key : ∀ (k : Nat) (us : List V), us.length + k = n → (∀ j, j < us.length → ∃ p, us[j]? = some (.ref p) ∧ Tup H p (rowV n (D (k + j)))) → EI (fun v g => ∃ p, v = .ref p ∧ Tup H p (rowV n (D g))) us (List.range' k us.length) := by
    intro k us
    induction us generalizing k with
    | nil => intro _ _; exact .nil
    | cons u us ih =>
      intro l h
      obtain ⟨p, e, t⟩ := h 0 (by simp)
      refine .cons ⟨p, by simpa using e, t⟩ ?_
      refine ih (k + 1) (by simp at l; omega) fun j hj => ?_
      obtain ⟨p, e, t⟩ := h (j + 1) (by simpa using hj)
      exact ⟨p, by simpa using e, by rw [show k + 1 + j = k + (j + 1) by omega]; exact t⟩
  have := key 0 vs (by omega) fun j hj => by
    rw [Nat.zero_add]
    exact h3 j (by omega)
  have e : List.range n = List.range' 0 vs.length := by rw [h2, List.range_eq_range']
  rw [e]
  exact this
theorem rd_shape (K : PySem.W.Frag) {L : List Addr} {P P2 : Addr} (h2 : P2 ∈ L) : ∀ vs H Q E, spShape K L P vs H Q E → run (t__has_shape K (spIsRow K L P2) P) (L2.start N__has_shape vs) H Q := by
  rintro _ H Q _ ⟨v, n, b, rfl, hv, ht, hP, q⟩
  show run (t__has_shape K (spIsRow K L P2) P) [some v, some (.int (n : Nat)), none] H Q
  unfold t__has_shape
  walk_at "sx"
  rcases hv with ⟨hv, rfl⟩ | ⟨a, es, bs, rfl, ta, ei, rfl⟩
  · refine g_isTupN hv ⟨false, rfl, ?_⟩
    rw [if_pos (by decide)]
    exact q H (KT.refl _ _)
  refine g_isi (ty_tup ta) kit_tuple_tuple ⟨true, rfl, ?_⟩
  rw [if_neg (by decide)]
  refine g_lenT ta (g_ne rfl ⟨_, rfl, ?_⟩)
  by_cases hl : es.length = n
  · rw [if_neg (by rw [hl]; simp)]
    rw [decide_eq_true hl, Bool.true_and] at q
    unfold t__has_shape_r1
    walk_at "sx"
    refine e_genU.mpr ?_
    walk_at "sx"
    refine g_GE (RR := fun H v o => FtB K H n v o) id ht hP (.inr ta.sq) ei (fun H' x r h k => h.kt k ht) (fun i x o H1 R R0 e k1 t1 hx hR => ?_) fun H1 k1 => ?_
    · walk_at "sx"
      exact ⟨x, n, o, rfl, hx, t1, h2, fun H2 k2 => hR H2 k2⟩
    · exact q H1 k1
  · rw [if_pos (by simp; omega)]
    rw [decide_eq_false hl, Bool.false_and] at q
    exact q H (KT.refl _ _)
/-- a chart is a square -/
theorem th_of {K : PySem.W.Frag} {H : Hp} {c : Addr} {n : Nat} {D : Tab} (h : ChAt H c n D) (pos : ∀ g h d, D g h = some d → 0 ≤ d) : ThB K H n (.ref c) true := by
  obtain ⟨vs, h1, h2, h3⟩ := h
  subst h2
  refine .inr ⟨c, vs, List.replicate vs.length true, rfl, h1, ?_, by rw [decide_eq_true rfl, Bool.true_and]; symm; exact List.all_eq_true.mpr fun x hx => (List.mem_replicate.mp hx).2⟩
  have key : ∀ us : List V, (∀ u ∈ us, FtB K H vs.length u true) → EI (FtB K H vs.length) us (List.replicate us.length true) := by
    intro us
    induction us with
    | nil => intro _; exact .nil
    | cons u us ih => intro h; exact .cons (h u List.mem_cons_self) (ih fun x hx => h x (List.mem_cons_of_mem _ hx))
  refine key vs fun u hu => ?_
  obtain ⟨g, hg, rfl⟩ := List.getElem_of_mem hu
  obtain ⟨p, e, t⟩ := h3 g hg
  rw [List.getElem?_eq_getElem hg] at e
  rw [Option.some.inj e]
  refine .inr ⟨p, _, rfl, t, fun x hx => ?_, ?_⟩
  · obtain ⟨i, _, rfl⟩ := List.mem_map.mp hx
    cases D g i with
    | none => exact .non
    | some d => exact .int d
  · rw [rowV_len, decide_eq_true rfl, Bool.true_and]
    symm
    refine List.all_eq_true.mpr fun x hx => ?_
    obtain ⟨i, _, rfl⟩ := List.mem_map.mp hx
    cases e : D g i with
    | none => rfl
    | some d => exact decide_eq_true (pos g i d e)
theorem ei_rws {α : Type} {f : α → List V} {H : Hp} : ∀ {vs : List V} {rs : List α}, Rws f H vs rs → EI (fun v r => ∃ p, v = .ref p ∧ Tup H p (f r)) vs rs
  | _, _, .nil => .nil
  | _, _, .cons h q => .cons ⟨_, rfl, h⟩ (ei_rws q)
theorem rws_ei {α : Type} {f : α → List V} {H : Hp} : ∀ {vs : List V} {rs : List α}, EI (fun v r => ∃ p, v = .ref p ∧ Tup H p (f r)) vs rs → Rws f H vs rs
  | _, _, .nil => .nil
  | _, _, .cons ⟨_, e, h⟩ q => by subst e; exact .cons h (rws_ei q)
def spLeads (L : List Addr) (P : Addr) : Sp := fun vs H Q _ => ∃ (r l : Addr) (us : List V) (n : Nat) (f : Nat → Option Int) (sts : List Stp), vs = [.ref r, .ref l] ∧ Tup H r (rowV n f) ∧ H l = some (.lst us) ∧ Rws stV H us sts ∧ (∀ s ∈ sts, s.a < n ∧ s.b < n) ∧ Tabs L H ∧ P ∈ L ∧ ∀ H', KT L H H' → Q (.bl (sts.any (leastB f))) H'
theorem rd_leads (K : PySem.W.Frag) {L : List Addr} {P : Addr} : ∀ vs H Q E, spLeads L P vs H Q E → run (t__leads_on K spLeast P) (L2.start N__leads_on vs) H Q := by
  rintro _ H Q _ ⟨r, l, us, n, f, sts, rfl, hr, hl, w, hb, ht, hP, q⟩
  show run (t__leads_on K spLeast P) [some (.ref r), some (.ref l), none] H Q
  unfold t__leads_on
  walk_at "sx"
  refine e_genU.mpr ?_
  walk_at "sx"
  exact g_GE (RR := fun H v s => ∃ p, v = .ref p ∧ Tup H p (stV s)) (leastB f) ht hP (.inl (lst_sq hl)) (ei_rws w) (fun H' x r ⟨p, h1, h2⟩ k => ⟨p, h1, h2.kt ht k⟩) (fun i x s H1 R R0 e k1 t1 ⟨p, hx, hs⟩ hR => by
    subst hx
    walk_at "sx"
    have := hb s (List.mem_of_getElem? e)
    exact ⟨r, p, n, f, s, rfl, hr.kt ht k1, hs, this.1, this.2, hR H1 (KT.refl _ _)⟩) q
theorem filt_oneX {α : Type} {rs : List α} {f : α → Bool} {i : Nat} {r : α} (e : rs[i]? = some r) : (rs.take (i + 1)).filter f = (rs.take i).filter f ++ (if f r = true then [r] else []) := by
  rw [List.take_succ, e, List.filter_append]
  congr 1
  cases h : f r <;> simp [h]
def spSlack (L : List Addr) (P : Addr) : Sp := fun vs H Q _ => ∃ (l c : Addr) (us : List V) (sts : List Stp) (n p : Nat) (D : Tab), vs = [.ref l, .ref c, .int (p : Nat)] ∧ H l = some (.lst us) ∧ Rws stV H us sts ∧ (∀ s ∈ sts, s.a < n ∧ s.b < n) ∧ sts.length ≤ 100 ∧ ChAt H c n D ∧ p < n ∧ Tabs L H ∧ P ∈ L ∧ ∀ H', KT L H H' → Q (.bl (slackB sts n D p)) H'
theorem any_prefix {n i : Nat} {f : Nat → Bool} (hi : i < n) (h : f i = true) : (List.range n).any f = true := List.any_eq_true.mpr ⟨i, List.mem_range.mpr hi, h⟩
theorem any_none {n : Nat} {f : Nat → Bool} (h : ∀ i, i < n → f i = false) : (List.range n).any f = false := by
  rw [List.any_eq_false]
  intro i hi
  rw [h i (List.mem_range.mp hi)]
  decide
theorem rd_slack (K : PySem.W.Frag) {L : List Addr} {P : Addr} : ∀ vs H Q E, spSlack L P vs H Q E → run (t__is_slack K (spLeads L P)) (L2.start N__is_slack vs) H Q := by
  rintro _ H Q _ ⟨l, c, us, sts, n, p, D, rfl, hl, w, hb, l100, ⟨vs, c1, c2, c3⟩, hp, ht, hP, q⟩
  show run (t__is_slack K (spLeads L P)) [some (.ref l), some (.ref c), some (.int (p : Nat)), none, none, none, none] H Q
  unfold t__is_slack
  walk_at "sx"
  refine g_CE (RR := fun H v s => ∃ p, v = .ref p ∧ Tup H p (stV s)) (.inl hl) (ei_rws w) (fun H H' x r ⟨p, h1, h2⟩ k => ⟨p, h1, h2.keep k nin0⟩) (fun i H' acc => EI (fun v s => ∃ p, v = .ref p ∧ Tup H' p (stV s)) acc ((sts.take i).filter fun s => decide (s.a = p))) (fun D H2 _ _ => .nil) ?_ ?_
  · rintro DD i _ s H2 acc R R0 nD e k2 eD ⟨sp, rfl, hs⟩ hacc hR hR0
    have hi := (List.getElem?_eq_some_iff.mp e).1
    walk_at "sx"
    refine g_ixT hs (at_lit 1 rfl rfl) (g_eq rfl ⟨_, rfl, ?_⟩)
    have ed : decide (V.int (s.a : Nat) = V.int (p : Nat)) = decide (s.a = p) := decide_eq_decide.mpr ⟨fun z => by injection z with z; omega, fun z => by rw [z]⟩
    rw [ed]
    by_cases hap : s.a = p
    · rw [if_pos (decide_eq_true hap)]
      refine hR _ H2 (Keep.refl _ _) ?_ fun H3 k3 => ?_
      · rw [hacc.length]
        exact len_lt (Nat.le_trans (List.length_filter_le _ _) (by rw [List.length_take]; omega))
      · have n2 : NoTup [DD] H2 := noTup1 eD
        rw [filt_oneX e, decide_eq_true hap, if_pos rfl]
        exact ei_snoc ⟨sp, rfl, hs.keep k3 (n2 _ _ hs)⟩ (ei_monoX (fun v r ⟨p, h1, h2⟩ => ⟨p, h1, h2.keep k3 (n2 _ _ h2)⟩) hacc)
    · rw [if_neg (by rw [decide_eq_false hap]; decide)]
      refine hR0 H2 (Keep.refl _ _) ?_
      rw [filt_oneX e, decide_eq_false hap, if_neg (by decide), List.append_nil]
      exact hacc
  rintro l2 H1 acc n1 k1 e1 hacc
  rw [List.take_length] at hacc
  walk_at "sx"
  have w1 := rws_ei hacc
  have ht1 := ht.keep0 k1
  have d1 := c1.keep k1 nin0
  refine g_FE (fun i σ H' => ∃ y4 y5 y6, σ = [some (.ref l), some (.ref c), some (.int (p : Nat)), some (.ref l2), y4, y5, y6] ∧ KT L H1 H' ∧ ∀ j, j < i → (!decide (j = p) && ((D j p).isSome && !(sts.filter fun s => decide (s.a = p)).any (leastB (D j)))) = false) d1
    ⟨_, _, _, rfl, KT.refl _ _, fun j hj => by omega⟩ (fun i σ H' _ ⟨_, _, _, _, k, _⟩ => d1.kt ht1 k) ?_ ?_
  · rintro g x σ H2 tp H3 hx ⟨y4, y5, y6, rfl, k2, hf⟩ ntp ktp etp
    have hg : g < n := by rw [← c2]; exact (List.getElem?_eq_some_iff.mp hx).1
    obtain ⟨rp, er, tr⟩ := c3 g hg
    rw [er] at hx
    cases hx
    have k13 := k2.trans (KT.of0 (L := L) ktp)
    have tr3 := (tr.keep k1 nin0).kt ht1 k13
    refine g_pair etp rfl ?_
    walk_at "sx"
    refine ⟨_, _, rfl, _, _, rfl, rfl, ?_⟩
    unfold t__is_slack_b1
    walk_at "sx"
    have no : ∀ H4, KT L H1 H4 → (!decide (g = p) && ((D g p).isSome && !(sts.filter fun s => decide (s.a = p)).any (leastB (D g)))) = false → ∃ a4 a5 a6, [some (V.ref l), some (.ref c), some (.int (p : Nat)), some (.ref l2), some (.int (g : Nat)), some (.ref rp), y6] = [some (V.ref l), some (.ref c), some (.int (p : Nat)), some (.ref l2), a4, a5, a6] ∧ KT L H1 H4 ∧ ∀ j, j < g + 1 → (!decide (j = p) && ((D j p).isSome && !(sts.filter fun s => decide (s.a = p)).any (leastB (D j)))) = false :=
      fun H4 k4 e => ⟨_, _, _, rfl, k4, fun j hj => by
        rcases Nat.lt_succ_iff_lt_or_eq.mp hj with h | h
        · exact hf j h
        · rw [h]; exact e⟩
    refine g_ne rfl ⟨_, rfl, ?_⟩
    have ed : decide (V.int (g : Nat) = V.int (p : Nat)) = decide (g = p) := decide_eq_decide.mpr ⟨fun z => by injection z with z; omega, fun z => by rw [z]⟩
    rw [ed]
    by_cases hgp : g = p
    · rw [if_neg (by rw [decide_eq_true hgp]; decide)]
      exact no H3 k13 (by rw [decide_eq_true hgp]; rfl)
    rw [if_pos (by rw [decide_eq_false hgp]; rfl)]
    refine g_ixT tr3 (at_lit p rfl (rowV_at hp)) ?_
    walk_at "sx"
    cases e : D g p with
    | none =>
      rw [if_neg (by decide)]
      exact no H3 k13 (by rw [e]; simp)
    | some d =>
      rw [if_pos (show (!decide (mV (some d) = V.non)) = true from rfl)]
      refine ⟨rp, l2, acc, n, D g, _, rfl, tr3, k13.k _ _ (ht1.lst e1) e1, w1.keep k13.k ht1.noTup, fun s hs => hb s (List.mem_filter.mp hs).1, k13.t ht1, hP, fun H4 k4 => ⟨_, rfl, ?_⟩⟩
      have k14 := k13.trans k4
      cases hc : (sts.filter fun s => decide (s.a = p)).any (leastB (D g)) with
      | true =>
        rw [if_neg (by decide)]
        exact no H4 k14 (by rw [hc]; simp)
      | false =>
        rw [if_pos (by decide)]
        have : slackB sts n D p = true := any_prefix hg (by rw [decide_eq_false hgp, e, hc]; rfl)
        rw [← this]
        exact q H4 ((KT.of0 k1).trans k14)
  · rintro σ H2 ⟨y4, y5, y6, rfl, k2, hf⟩
    unfold t__is_slack_r1
    walk_at "sx"
    have : slackB sts n D p = false := any_none fun i hi => hf i (by rw [c2]; exact hi)
    rw [← this]
    exact q H2 ((KT.of0 k1).trans k2)


/-! ### lets_chart -/
theorem find_range {n i : Nat} {f : Nat → Bool} (hi : i < n) (h : f i = true) (hf : ∀ j, j < i → f j = false) : (List.range n).find? f = some i := by
  rw [List.find?_eq_some_iff_append]
  refine ⟨h, List.range i, (List.range' (i + 1) (n - (i + 1))), ?_, fun j hj => ?_⟩
  · rw [List.range_eq_range', List.range_eq_range', show i :: List.range' (i + 1) (n - (i + 1)) = List.range' i (n - i) by
      rw [show n - i = (n - (i + 1)) + 1 by omega, List.range'_succ]]
    have := List.range'_append (s := 0) (m := i) (n := n - i) (step := 1)
    rw [show 0 + 1 * i = i by omega] at this
    rw [this]
    congr 1
    omega
  · rw [hf j (List.mem_range.mp hj)]; rfl
theorem find_none {α : Type} {l : List α} {f : α → Bool} (h : ∀ x ∈ l, f x = false) : l.find? f = none := by
  rw [List.find?_eq_none]
  intro x hx
  rw [h x hx]
  decide
theorem find_list {α : Type} {f : α → Bool} : ∀ {l : List α} {i : Nat} {r : α}, l[i]? = some r → f r = true → (∀ j r', j < i → l[j]? = some r' → f r' = false) → l.find? f = some r
  | [], _, _, e, _, _ => by simp at e
  | a :: l, 0, r, e, h, _ => by
    simp at e
    subst e
    rw [List.find?_cons_of_pos h]
  | a :: l, i + 1, r, e, h, hf => by
    have ha : f a = false := hf 0 a (Nat.succ_pos _) rfl
    rw [List.find?_cons_of_neg (by rw [ha]; decide)]
    exact find_list (i := i) (by simpa using e) h fun j r' hj e' => hf (j + 1) r' (by omega) (by simpa using e')
def xdV (w : Str) (k : Nat) : HO := .xd [("at", .int (k : Nat)), ("word", .str w)]
def spLets0 (CN : Addr) (L : List Addr) (P : Addr) : Sp := fun vs H Q E => ∃ (t sh c : Addr) (T : Tn) (zs : List Int) (D : Tab), vs = [.ref t, .ref sh, .ref c] ∧ TnAt H t T ∧ TnOk T ∧ Tup H sh (zs.map V.int) ∧ ChAt H c T.places.length D ∧ (∀ g h d, D g h = some d → 0 ≤ d) ∧ Tabs L H ∧ P ∈ L ∧
  (verd (stepsTo T zs T.roads.length) T.places.length D = none → ∀ H', KT L H H' → Q (.bl true) H') ∧
  ∀ w k, verd (stepsTo T zs T.roads.length) T.places.length D = some (w, k) → ∀ H' d, KT L H H' → H' d = some (xdV w k) → E (.ref CN) (some d) H'
/-- of a thing that is no square: its shape is named -/
def spLets (K : PySem.W.Frag) (CN : Addr) (L : List Addr) (P : Addr) : Sp := fun vs H Q E => spLets0 CN L P vs H Q E ∨ ∃ (t sh : Addr) (v : V) (T : Tn), vs = [.ref t, .ref sh, v] ∧ TnAt H t T ∧ ThB K H T.places.length v false ∧ Tabs L H ∧ P ∈ L ∧ ∀ H' d, KT L H H' → H' d = some (xdV "shape" 0) → E (.ref CN) (some d) H'
theorem raise_at {K : PySem.W.Frag} {C : Addr} {L : List Addr} {σ : L2.St} {H H1 : Hp} {E : XK} {w : Str} {k : Nat} (kk : KT L H H1) (q : ∀ H' d, KT L H H' → H' d = some (xdV w k) → E (.ref C) (some d) H') :
    [V.str w, V.int (k : Nat)].length ≤ 1000 ∧ ∀ a, H1 a = none → spIni K C ["word", "at"] (.ref a :: ([V.str w, V.int (k : Nat)] ++ [])) (upd H1 a (exo a C none))
      (fun v H2 => v = .non ∧ ∃ (d : Addr) (gs : List (Str × V)), H2 a = some (exo a C (some d)) ∧ H2 d = some (exd d gs) ∧ H1 d = none ∧ E (.ref C) (some d) (upd (del H2 a) d (.xd gs))) (fun _ _ _ => False) :=
  g_mkO (fs := ["word", "at"]) (Q := E) (σ := σ) rfl (by show 2 ≤ 1000; decide) fun d nd => q _ d (kk.trans (KT.of0 (Keep.new nd))) upd_same
theorem steps_in {T : Tn} {zs : List Int} (ok : TnOk T) : ∀ s ∈ stepsTo T zs T.roads.length, s.a < T.places.length ∧ s.b < T.places.length := fun s hs => by
  have := stepsTo_ok ok hs
  exact ⟨this.a, this.b⟩
theorem rd_lets (K : PySem.W.Frag) {CN : Addr} {L : List Addr} {P P1 P2 : Addr} (h1 : P1 ∈ L) (h2 : P2 ∈ L) : ∀ vs H Q E, spLets K CN L P vs H Q E → run (t_lets_chart K (spShape K L P1) spSteps (spSteep K) (spSlack L P2) CN P E) (L2.start N_lets_chart vs) H Q := by
  rintro _ H Q E (⟨t, sh, c, T, zs, D, rfl, hT, ok, hz, hc, pos, ht, hP, good, bad⟩ | ⟨t, sh, v, T, rfl, hT, th, ht, hP, bad⟩)
  rotate_left
  · obtain ⟨ap, ar, as, rv, g1, g2, g3, g4, g5⟩ := hT
    show run (t_lets_chart K (spShape K L P1) spSteps (spSteep K) (spSlack L P2) CN P E) [some (.ref t), some (.ref sh), some v, none, none, none, none, none] H Q
    unfold t_lets_chart
    walk_at "sx"
    refine g_ixT g1 (at_lit 0 rfl rfl) (g_lenT g2 ?_)
    rw [List.length_map]
    refine ⟨v, T.places.length, false, rfl, th, ht, h1, fun H1 k1 => ⟨false, rfl, ?_⟩⟩
    rw [if_pos (by decide)]
    unfold tRaiseE tMkO
    walk_at "sx"
    exact raise_at (k := 0) (σ := []) k1 bad
  have hT0 := hT
  obtain ⟨ap, ar, as, rv, g1, g2, g3, g4, g5⟩ := hT
  have hb := steps_in (zs := zs) ok
  have p10 := ok.p10
  have r18 := ok.r18
  have sl := stepsTo_len T zs T.roads.length
  generalize hsts : stepsTo T zs T.roads.length = sts at *
  generalize hn : T.places.length = n at *
  show run (t_lets_chart K (spShape K L P1) spSteps (spSteep K) (spSlack L P2) CN P E) [some (.ref t), some (.ref sh), some (.ref c), none, none, none, none, none] H Q
  unfold t_lets_chart
  walk_at "sx"
  refine g_ixT g1 (at_lit 0 rfl rfl) (g_lenT g2 ?_)
  rw [List.length_map, hn]
  refine ⟨.ref c, n, true, rfl, th_of hc pos, ht, h1, fun H1 k1 => ⟨true, rfl, ?_⟩⟩
  rw [if_neg (by decide)]
  have ht1 := k1.t ht
  have hc1 := hc.kt ht k1
  obtain ⟨vs, c1, c2, c3⟩ := id hc1
  unfold t_lets_chart_r4
  walk_at "sx"
  refine g_FE (fun i σ H' => ∃ y3 y4 y7, σ = [some (.ref t), some (.ref sh), some (.ref c), y3, y4, none, none, y7] ∧ KT L H1 H' ∧ ∀ j, j < i → goalB D j = false) c1 ⟨_, _, _, rfl, KT.refl _ _, fun j hj => by omega⟩ (fun i σ H' _ ⟨_, _, _, _, k, _⟩ => c1.kt ht1 k) ?_ ?_
  · rintro g x σ H2 tp H3 hx ⟨y3, y4, y7, rfl, k2, hf⟩ ntp ktp etp
    have hg : g < n := by rw [← c2]; exact (List.getElem?_eq_some_iff.mp hx).1
    obtain ⟨rp, er, tr⟩ := c3 g hg
    rw [er] at hx
    cases hx
    have k13 := k2.trans (KT.of0 (L := L) ktp)
    have tr3 := tr.kt ht1 k13
    refine g_pair etp rfl ?_
    walk_at "sx"
    refine ⟨_, _, rfl, _, _, rfl, rfl, ?_⟩
    unfold t_lets_chart_b1
    walk_at "sx"
    refine g_ixT tr3 (at_lit g rfl (rowV_at hg)) (g_ne (scal_mV _ _) ⟨_, rfl, ?_⟩)
    rw [eq_mV]
    cases hgb : goalB D g with
    | true =>
      have e0 : (!decide (D g g = some 0)) = true := hgb
      rw [e0, if_pos rfl]
      unfold tRaiseE tMkO
      walk_at "sx"
      refine raise_at (σ := []) (k1.trans k13) (bad "goal" g ?_)
      unfold verd
      rw [find_range hg hgb hf]
    | false =>
      have e0 : (!decide (D g g = some 0)) = false := hgb
      rw [e0, if_neg (by decide)]
      exact ⟨_, _, _, rfl, k13, fun j hj => by
        rcases Nat.lt_succ_iff_lt_or_eq.mp hj with h | h
        · exact hf j h
        · rw [h]; exact hgb⟩
  rintro σ H2 ⟨y3, y4, y7, rfl, k2, hf⟩
  have goals : (List.range n).find? (goalB D) = none := find_none fun g hg => hf g (by rw [c2]; exact List.mem_range.mp hg)
  have k02 := k1.trans k2
  have ht2 := k2.t ht1
  unfold t_lets_chart_r3
  walk_at "sx"
  refine ⟨t, sh, T, zs, rfl, hT0.kt ht k02, ok, hz.kt ht k02, fun dl H3 us n3 k3 e3 w3 => ?_⟩
  rw [hsts] at w3
  walk_at "sx"
  have ht3 := ht2.keep0 k3
  have k03 := k02.trans (KT.of0 (L := L) k3)
  have hc3 := hc.kt ht k03
  obtain ⟨ws, d1, d2, d3⟩ := id hc3
  refine g_FL (fun i σ H' => ∃ y4 y7, σ = [some (.ref t), some (.ref sh), some (.ref c), y3, y4, some (.ref dl), none, y7] ∧ KT L H3 H' ∧ ∀ j s, j < i → sts[j]? = some s → steepB n D s = false) (lst_sq e3) ⟨_, _, rfl, KT.refl _ _, fun j s hj => by omega⟩ (fun i σ H' _ ⟨_, _, _, k, _⟩ => lst_sq (k.k _ _ (ht3.lst e3) e3)) ?_ ?_
  · rintro i x σ H4 hx ⟨y4, y7, rfl, k4, hf2⟩
    have hi : i < sts.length := by rw [← w3.len]; exact (List.getElem?_eq_some_iff.mp hx).1
    obtain ⟨sp, es, ts⟩ := w3.get (List.getElem?_eq_getElem hi)
    rw [es] at hx
    cases hx
    have hs : sts[i]? = some sts[i] := List.getElem?_eq_getElem hi
    have hm := List.getElem_mem hi
    generalize sts[i] = s at hs hm ts
    obtain ⟨ha, hb'⟩ := hb s hm
    have ts4 := ts.kt ht3 k4
    have ht4 := k4.t ht3
    have d4 := d1.kt ht3 k4
    unfold t_lets_chart_b2
    walk_at "sx"
    refine e_genU.mpr ?_
    walk_at "sx"
    have e4 := ei_ch d2 d3
    have e4' : EI (fun v g => ∃ p, v = .ref p ∧ Tup H4 p (rowV n (D g))) ws (List.range n) := ei_monoX (fun v g ⟨p, h1, h2⟩ => ⟨p, h1, h2.kt ht3 k4⟩) e4
    refine g_GE (RR := fun H v g => ∃ p, v = .ref p ∧ Tup H p (rowV n (D g))) (fun g => stpB (D g) s) ht4 hP (.inr d4.sq) e4' (fun H' x r ⟨p, h1, h2⟩ k => ⟨p, h1, h2.kt ht4 k⟩) (fun i x g H5 R R0 e k5 t5 ⟨p, hx, hr⟩ hR => ?_) fun H5 k5 => ?_
    · subst hx
      walk_at "sx"
      exact ⟨p, sp, n, D g, s, rfl, .inr hr, ts4.kt ht4 k5, ha, hb', hR H5 (KT.refl _ _)⟩
    have ea : aaB true (fun g => stpB (D g) s) (List.range n) = steepB n D s := rfl
    rw [ea]
    refine ⟨_, rfl, ?_⟩
    have k35 := k4.trans k5
    cases hst : steepB n D s with
    | true =>
      rw [if_pos rfl]
      unfold tRaiseE tMkO
      walk_at "sx"
      refine g_ixT (ts4.kt ht4 k5) (at_lit 0 rfl rfl) ?_
      refine raise_at (σ := []) (k03.trans k35) (bad "steep" s.k ?_)
      unfold verd
      rw [goals, find_list hs hst fun j r' hj e' => hf2 j r' hj e']
    | false =>
      rw [if_neg (by decide)]
      exact ⟨_, _, rfl, k35, fun j s' hj e' => by
        rcases Nat.lt_succ_iff_lt_or_eq.mp hj with h | h
        · exact hf2 j s' h e'
        · rw [h, hs] at e'
          cases e'
          exact hst⟩
  rintro σ H4 ⟨y4, y7, rfl, k4, hf2⟩
  have steeps : sts.find? (steepB n D) = none := find_none fun s hs => by
    obtain ⟨j, hj, e⟩ := List.getElem_of_mem hs
    exact hf2 j s (by rw [w3.len]; exact hj) (by rw [List.getElem?_eq_getElem hj, e])
  have ht4 := k4.t ht3
  have d4 := d1.kt ht3 k4
  have e4 := k4.k _ _ (ht3.lst e3) e3
  have w4 := w3.keep k4.k ht3.noTup
  have hc4 := hc3.kt ht3 k4
  unfold t_lets_chart_r2
  walk_at "sx"
  refine g_lenT d4 ?_
  rw [d2]
  refine g_FR1 (by omega) (by omega) ⟨fun i σ H' => ∃ y6, σ = [some (.ref t), some (.ref sh), some (.ref c), y3, y4, some (.ref dl), y6, y7] ∧ KT L H4 H' ∧ ∀ j, j < i → slackB sts n D j = false, ⟨_, rfl, KT.refl _ _, fun j hj => by omega⟩, ?_, ?_⟩
  · rintro p σ H5 hp ⟨y6, rfl, k5, hf3⟩
    have hp' : p < n := by simpa using hp
    unfold t_lets_chart_b3
    walk_at "sx"
    refine ⟨dl, c, us, sts, n, p, D, rfl, k5.k _ _ (ht4.lst e4) e4, w4.keep k5.k ht4.noTup, hb, by omega, hc4.kt ht4 k5, hp', k5.t ht4, h2, fun H6 k6 => ⟨_, rfl, ?_⟩⟩
    have k46 := k5.trans k6
    cases hsl : slackB sts n D p with
    | true =>
      rw [if_pos rfl]
      unfold tRaiseE tMkO
      walk_at "sx"
      refine raise_at (σ := []) (k03.trans (k4.trans k46)) (bad "slack" p ?_)
      unfold verd
      rw [goals, steeps, find_range hp' hsl hf3]
    | false =>
      rw [if_neg (by decide)]
      exact ⟨_, rfl, k46, fun j hj => by
        rcases Nat.lt_succ_iff_lt_or_eq.mp hj with h | h
        · exact hf3 j h
        · rw [h]; exact hsl⟩
  · rintro σ H5 ⟨y6, rfl, k5, hf3⟩
    have slacks : (List.range n).find? (slackB sts n D) = none := find_none fun p hp => hf3 p (by simpa using List.mem_range.mp hp)
    unfold t_lets_chart_r1
    walk_at "sx"
    exact good (by unfold verd; rw [goals, steeps, slacks]) H5 (k03.trans (k4.trans k5))


/-! ### the law's verdict -/
theorem ChAt.row {H : Hp} {c : Addr} {n : Nat} {D : Tab} (h : ChAt H c n D) {g : Nat} (hg : g < n) : ∃ (rp : Addr) (e : ∃ vs, Tup H c vs ∧ vs[g]? = some (V.ref rp)), Tup H rp (rowV n (D g)) := by
  obtain ⟨vs, h1, h2, h3⟩ := h
  obtain ⟨p, e, t⟩ := h3 g hg
  exact ⟨p, ⟨vs, h1, e⟩, t⟩
def spVerd : Sp := fun vs H Q _ => ∃ (t sh c : Addr) (T : Tn) (zs : List Int) (D : Tab), vs = [.ref t, .ref sh, .ref c] ∧ TnAt H t T ∧ TnOk T ∧ Tup H sh (zs.map V.int) ∧ ChAt H c T.places.length D ∧
  (verd (stepsTo T zs T.roads.length) T.places.length D = none → ∀ H', Keep [] H H' → Q (.bl true) H') ∧
  ∀ w k, verd (stepsTo T zs T.roads.length) T.places.length D = some (w, k) → ∀ H' p, Keep [] H H' → Tup H' p [.str w, .int (k : Nat)] → Q (.ref p) H'
theorem eq_mV' {o : Option Int} {i : Int} : decide (V.int i = mV o) = decide (o = some i) := by
  rw [← eq_mV]
  exact decide_eq_decide.mpr ⟨Eq.symm, Eq.symm⟩
theorem scal_mV' (o : Option Int) (i : Int) : scal (.int i) (mV o) = true := by cases o <;> rfl
theorem dp_intsX {K : PySem.W.Frag} {H : Hp} {α : Type} (f : α → Int) : ∀ ks : List α, DpAll K H (ks.map fun k => V.int (f k)) (ks.map fun k => .int (f k))
  | [] => .nil
  | k :: ks => .cons (.int _) (dp_intsX f ks)
theorem lay_intsX {α : Type} (f : α → Int) : ∀ ks : List α, PyData.canLayAll0 (ks.map fun k => .int (f k)) = true ∧ PyData.depthAll (ks.map fun k => .int (f k)) = 0
  | [] => by simp [PyData.canLayAll0, PyData.depthAll]
  | k :: ks => by
    obtain ⟨a, b⟩ := lay_intsX f ks
    simp [PyData.canLayAll0, PyData.depthAll, PyData.canLay0, PyData.depth, a, b]
theorem g_eqNil {K : PySem.W.Frag} {H : Hp} {a b : Addr} {α : Type} {f : α → Int} {ks : List α} {Q : VK} (h : H a = some (.lst (ks.map fun k => V.int (f k)))) (e : H b = some (.lst [])) (q : Q (.bl ks.isEmpty) H) : uEq K false (.ref a) (.ref b) H Q := by
  obtain ⟨h1, h2⟩ := lay_intsX f ks
  refine .inr ⟨_, _, .lst (lst_sq h) (dp_intsX f ks), .lst (lst_sq e) .nil, ?_, by decide +kernel, ?_⟩
  · unfold SeqAt.shaped
    rw [Bool.and_eq_true_iff]
    exact ⟨by simp [PyData.canLay0, h1], decide_eq_true (by simp [PyData.depth, h2])⟩
  · rw [if_neg (by decide)]
    cases ks with
    | nil => exact q
    | cons y ys => exact q
theorem Rws.got {α : Type} {f : α → List V} {H : Hp} {vs : List V} {rs : List α} (w : Rws f H vs rs) {i : Nat} {x : V} (e : vs[i]? = some x) : ∃ r p, rs[i]? = some r ∧ x = .ref p ∧ Tup H p (f r) := by
  have hi : i < rs.length := by rw [← w.len]; exact (List.getElem?_eq_some_iff.mp e).1
  obtain ⟨p, h1, h2⟩ := w.get (List.getElem?_eq_getElem hi)
  rw [e] at h1
  cases h1
  exact ⟨_, p, List.getElem?_eq_getElem hi, rfl, h2⟩
theorem stp_dec {e m d : Int} : decide (e < d - m) = decide (e + m < d) := decide_eq_decide.mpr ⟨fun h => by omega, fun h => by omega⟩
theorem range_filt {i : Nat} {f : Nat → Bool} : (List.range (i + 1)).filter f = (List.range i).filter f ++ (if f i = true then [i] else []) := by
  rw [List.range_succ, List.filter_append]
  congr 1
  cases h : f i <;> simp [h]
theorem filt_any {fs : List Stp} {g : Stp → Bool} : ((List.range fs.length).filter fun k => (fs[k]?.map g).getD false).isEmpty = !fs.any g := by
  rw [Bool.eq_iff_iff]
  simp only [List.isEmpty_iff, List.filter_eq_nil_iff, List.mem_range, Bool.not_eq_true', List.any_eq_false, Bool.not_eq_true]
  constructor
  · intro h s hs
    obtain ⟨k, hk, rfl⟩ := List.getElem_of_mem hs
    have := h k hk
    rw [List.getElem?_eq_getElem hk] at this
    exact this
  · intro h k hk
    rw [List.getElem?_eq_getElem hk]
    exact h _ (List.getElem_mem hk)
theorem rd_verd (K : PySem.W.Frag) : ∀ vs H Q E, spVerd vs H Q E → run (t__law_verdict K spSteps) (L2.start N__law_verdict vs) H Q := by
  rintro _ H Q _ ⟨t, sh, c, T, zs, D, rfl, hT, ok, hz, hc, good, bad⟩
  have hT0 := hT
  obtain ⟨ap, ar, as, rv, g1, g2, g3, g4, g5⟩ := hT
  have hb := steps_in (zs := zs) ok
  have p10 := ok.p10
  have r18 := ok.r18
  have sl := stepsTo_len T zs T.roads.length
  generalize hsts : stepsTo T zs T.roads.length = sts at *
  generalize hn : T.places.length = n at *
  show run (t__law_verdict K spSteps) [some (.ref t), some (.ref sh), some (.ref c), none, none, none, none, none, none, none, none, none, none, none, none, none, none] H Q
  unfold t__law_verdict
  walk_at "sx"
  refine g_ixT g1 (at_lit 0 rfl rfl) (g_lenT g2 ?_)
  rw [List.length_map, hn]
  walk_at "sx"
  refine g_FR1 (by omega) (by omega) ⟨fun i σ H' => ∃ y4, σ = [some (.ref t), some (.ref sh), some (.ref c), some (.int (n : Nat)), y4, none, none, none, none, none, none, none, none, none, none, none, none] ∧ H' = H ∧ ∀ j, j < i → goalB D j = false, ⟨_, rfl, rfl, fun j hj => by omega⟩, ?_, ?_⟩
  · rintro g σ H1 hg ⟨y4, rfl, rfl, hf⟩
    have hg' : g < n := by simpa using hg
    unfold t__law_verdict_b1
    walk_at "sx"
    refine ch_get hc hg' hg' (g_ne (scal_mV _ _) ⟨_, rfl, ?_⟩)
    rw [eq_mV]
    cases hgb : goalB D g with
    | true =>
      have e0 : (!decide (D g g = some 0)) = true := hgb
      rw [e0, if_pos rfl]
      refine ⟨by walk_at "sz", fun p H2 n2 k2 e2 => bad "goal" g ?_ H2 p k2 e2⟩
      unfold verd
      rw [find_range hg' hgb hf]
    | false =>
      have e0 : (!decide (D g g = some 0)) = false := hgb
      rw [e0, if_neg (by decide)]
      exact ⟨_, rfl, rfl, fun j hj => by
        rcases Nat.lt_succ_iff_lt_or_eq.mp hj with h | h
        · exact hf j h
        · rw [h]; exact hgb⟩
  rintro σ H1 ⟨y4, rfl, rfl, hf⟩
  have goals : (List.range n).find? (goalB D) = none := find_none fun g hg => hf g (by simpa using List.mem_range.mp hg)
  unfold t__law_verdict_r3
  walk_at "sx"
  refine ⟨t, sh, T, zs, rfl, hT0, ok, hz, fun dl H2 us n2 k2 e2 w2 => ?_⟩
  rw [hsts] at w2
  walk_at "sx"
  have hc2 := hc.keep k2
  obtain ⟨ws, d1, d2, d3⟩ := id hc2
  refine g_FL (fun i σ H' => ∃ y6 y7 y8 y9 y10 y11, σ = [some (.ref t), some (.ref sh), some (.ref c), some (.int (n : Nat)), y4, some (.ref dl), y6, y7, y8, y9, y10, y11, none, none, none, none, none] ∧ H' = H2 ∧ ∀ j s, j < i → sts[j]? = some s → steepB n D s = false) (lst_sq e2) ⟨_, _, _, _, _, _, rfl, rfl, fun j s hj => by omega⟩ (fun i σ H' _ ⟨_, _, _, _, _, _, _, e, _⟩ => by rw [e]; exact lst_sq e2) ?_ ?_
  · rintro i x σ H3 hx ⟨y6, y7, y8, y9, y10, y11, rfl, rfl, hf2⟩
    obtain ⟨s, sp, hs, rfl, ts⟩ := w2.got hx
    have hm := List.mem_of_getElem? hs
    obtain ⟨ha, hb'⟩ := hb s hm
    refine g_tupX ts rfl ?_
    unfold stV
    walk_at "sx"
    refine ⟨_, _, rfl, _, _, rfl, _, _, rfl, _, _, rfl, rfl, ?_⟩
    unfold t__law_verdict_b3
    walk_at "sx"
    refine g_FT (fun i' σ H' => ∃ y10 y11, σ = [some (.ref t), some (.ref sh), some (.ref c), some (.int (n : Nat)), y4, some (.ref dl), some (.int (s.k : Nat)), some (.int (s.a : Nat)), some (.int (s.b : Nat)), some (.int s.m), y10, y11, none, none, none, none, none] ∧ H' = H3 ∧ ∀ g, g < i' → stpB (D g) s = false) d1 ⟨_, _, rfl, rfl, fun g hg => by omega⟩ (fun i σ H' _ ⟨_, _, _, e, _⟩ => by rw [e]; exact d1) ?_ ?_
    · rintro g x σ H4 hx2 ⟨y10, y11, rfl, rfl, hf3⟩
      have hg : g < n := by rw [← d2]; exact (List.getElem?_eq_some_iff.mp hx2).1
      obtain ⟨rp, er, tr⟩ := d3 g hg
      rw [er] at hx2
      cases hx2
      unfold t__law_verdict_b2
      walk_at "sx"
      refine g_ixT tr (at_lit s.b rfl (rowV_at hb')) ?_
      walk_at "sx"
      have hit : stpB (D g) s = true → ∀ H5 p, Keep [] H1 H5 → Tup H5 p [.str "steep", .int (s.k : Nat)] → Q (.ref p) H5 := fun e H5 p k t5 => by
        have hst : steepB n D s = true := any_prefix hg e
        refine bad "steep" s.k ?_ H5 p k t5
        unfold verd
        rw [goals, find_list hs hst fun j r' hj e' => hf2 j r' hj e']
      have no : stpB (D g) s = false → ∃ a10 a11, [some (V.ref t), some (.ref sh), some (.ref c), some (.int (n : Nat)), y4, some (.ref dl), some (.int (s.k : Nat)), some (.int (s.a : Nat)), some (.int (s.b : Nat)), some (.int s.m), some (.ref rp), some (mV (D g s.b)), none, none, none, none, none] = [some (V.ref t), some (.ref sh), some (.ref c), some (.int (n : Nat)), y4, some (.ref dl), some (.int (s.k : Nat)), some (.int (s.a : Nat)), some (.int (s.b : Nat)), some (.int s.m), a10, a11, none, none, none, none, none] ∧ ∀ g', g' < g + 1 → stpB (D g') s = false := fun e => ⟨_, _, rfl, fun g' hg' => by
        rcases Nat.lt_succ_iff_lt_or_eq.mp hg' with h | h
        · exact hf3 g' h
        · rw [h]; exact e⟩
      have out : stpB (D g) s = true → [V.str "steep", V.int (s.k : Nat)].length ≤ sizeLine ∧ Mt H4 [V.str "steep", V.int (s.k : Nat)] Q := fun e => ⟨by exact len_le (show 2 ≤ 1000000 by decide), fun p H5 n5 k5 e5 => hit e H5 p (k2.trans k5) e5⟩
      cases eb : D g s.b with
      | none =>
        rw [eb] at no
        rw [if_neg (by decide)]
        exact no (by unfold stpB; rw [eb])
      | some e =>
        rw [eb] at no
        rw [if_pos (show (!decide (mV (some e) = V.non)) = true from rfl)]
        refine g_ixT tr (at_lit s.a rfl (rowV_at ha)) ?_
        walk_at "sx"
        cases ea : D g s.a with
        | none =>
          rw [if_pos (show mV none = V.non from rfl)]
          exact out (by unfold stpB; rw [eb]; dsimp only; rw [ea])
        | some d =>
          rw [if_neg (show ¬ mV (some d) = V.non from fun e => nomatch e)]
          refine g_ixT tr (at_lit s.a rfl (rowV_at ha)) ?_
          rw [ea]
          show rI0 _ (.int d) (.int s.m) H4 _
          refine e_rI0.mpr ?_
          show rI0 _ (.int (d - s.m)) (.int e) H4 _
          refine e_rI0.mpr ⟨_, rfl, ?_⟩
          have es : stpB (D g) s = decide (e + s.m < d) := by unfold stpB; rw [eb]; dsimp only; rw [ea]
          rw [stp_dec, ← es]
          cases hst : stpB (D g) s with
          | true =>
            rw [if_pos rfl]
            exact out hst
          | false =>
            rw [if_neg (by decide)]
            obtain ⟨a1, a2, q1, q2⟩ := no hst
            exact ⟨a1, a2, q1, rfl, q2⟩
    · rintro σ H4 ⟨y10, y11, rfl, rfl, hf3⟩
      refine ⟨_, _, _, _, _, _, rfl, rfl, fun j s' hj e' => ?_⟩
      rcases Nat.lt_succ_iff_lt_or_eq.mp hj with h | h
      · exact hf2 j s' h e'
      · rw [h, hs] at e'
        cases e'
        exact any_none fun g hg => hf3 g (by rw [d2]; exact hg)
  rintro σ H3 ⟨y6, y7, y8, y9, y10, y11, rfl, rfl, hf2⟩
  have steeps : sts.find? (steepB n D) = none := find_none fun s hs => by
    obtain ⟨j, hj, e⟩ := List.getElem_of_mem hs
    exact hf2 j s (by rw [w2.len]; exact hj) (by rw [List.getElem?_eq_getElem hj, e])
  unfold t__law_verdict_r2
  walk_at "sx"
  refine g_FR1 (by omega) (by omega) ⟨fun i σ H' => ∃ y4 y6 y7 y12 y13 y14 y15 y16, σ = [some (.ref t), some (.ref sh), some (.ref c), some (.int (n : Nat)), y4, some (.ref dl), y6, y7, y8, y9, y10, y11, y12, y13, y14, y15, y16] ∧ Keep [] H3 H' ∧ ∀ j, j < i → slackB sts n D j = false, ⟨_, _, _, _, _, _, _, _, rfl, Keep.refl _ _, fun j hj => by omega⟩, ?_, ?_⟩
  · rintro p σ H4 hp ⟨y4, y6, y7, y12, y13, y14, y15, y16, rfl, k4, hf3⟩
    have hp' : p < n := by simpa using hp
    unfold t__law_verdict_b5
    walk_at "sx"
    refine g_FR1 (by omega) (by omega) ⟨fun i σ H' => ∃ y4 y6 y12 y13 y14 y15 y16, σ = [some (.ref t), some (.ref sh), some (.ref c), some (.int (n : Nat)), y4, some (.ref dl), y6, some (.int (p : Nat)), y8, y9, y10, y11, y12, y13, y14, y15, y16] ∧ Keep [] H4 H' ∧ ∀ g, g < i → (!decide (g = p) && ((D g p).isSome && !(sts.filter fun s => decide (s.a = p)).any (leastB (D g)))) = false, ⟨_, _, _, _, _, _, _, rfl, Keep.refl _ _, fun j hj => by omega⟩, ?_, ?_⟩
    · rintro g σ H5 hg ⟨y4, y6, y12, y13, y14, y15, y16, rfl, k5, hf4⟩
      have hg' : g < n := by simpa using hg
      have k35 := k4.trans k5
      have hc5 := hc2.keep k35
      have e5 := k35 _ _ nin0 e2
      have w5 := w2.keep k35 noTup0
      unfold t__law_verdict_b4
      walk_at "sx"
      refine ch_get hc5 hg' hp' ?_
      walk_at "sx"
      have len100 : ∀ i : Nat, ((sts.take i).filter fun s => decide (s.a = p)).length < sizeLine := fun i => len_lt (Nat.le_trans (List.length_filter_le _ _) (by rw [List.length_take]; omega))
      have edp : ∀ s : Stp, decide (V.int (s.a : Nat) = V.int (p : Nat)) = decide (s.a = p) := fun s => decide_eq_decide.mpr ⟨fun z => by injection z with z; omega, fun z => by rw [z]⟩
      refine g_CE (RR := fun H v s => ∃ p, v = .ref p ∧ Tup H p (stV s)) (.inl e5) (ei_rws w5) (fun H H' x r ⟨p, h1, h2⟩ k => ⟨p, h1, h2.keep k nin0⟩) (fun i H' acc => acc = (((sts.take i).filter fun s => decide (s.a = p)).map fun s => mV (D g s.b))) (fun D H2 _ _ => rfl) ?_ ?_
      · rintro DD i _ s H6 acc R R0 nD e k6 eD ⟨sp, rfl, hs⟩ hacc hR hR0
        obtain ⟨ha, hb'⟩ := hb s (List.mem_of_getElem? e)
        walk_at "sx"
        refine g_ixT hs (at_lit 1 rfl rfl) (g_eq rfl ⟨_, rfl, ?_⟩)
        rw [edp]
        by_cases hap : s.a = p
        · rw [if_pos (decide_eq_true hap)]
          obtain ⟨rp, ⟨us6, er1, er2⟩, tr⟩ := (hc5.keep k6).row hg'
          refine g_ixT er1 (at_lit g rfl er2) (g_ixT hs (at_lit 2 rfl rfl) (g_ixT tr (at_lit s.b rfl (rowV_at hb')) (hR _ H6 (Keep.refl _ _) ?_ fun H7 k7 => ?_)))
          · rw [hacc, List.length_map]; exact len100 i
          · rw [hacc, filt_oneX e, decide_eq_true hap]; simp
        · rw [if_neg (by rw [decide_eq_false hap]; decide)]
          exact hR0 H6 (Keep.refl _ _) (by rw [hacc, filt_oneX e, decide_eq_false hap]; simp)
      rintro ll H6 acc n6 k6 e6 hacc
      rw [List.take_length] at hacc
      subst hacc
      walk_at "sx"
      refine g_CE (RR := fun H v s => ∃ p, v = .ref p ∧ Tup H p (stV s)) (.inl (k6 _ _ nin0 e5)) (ei_rws (w5.keep k6 noTup0)) (fun H H' x r ⟨p, h1, h2⟩ k => ⟨p, h1, h2.keep k nin0⟩) (fun i H' acc => acc = (((sts.take i).filter fun s => decide (s.a = p)).map fun s => V.int s.m)) (fun D H2 _ _ => rfl) ?_ ?_
      · rintro DD i _ s H7 acc R R0 nD e k7 eD ⟨sp, rfl, hs⟩ hacc hR hR0
        walk_at "sx"
        refine g_ixT hs (at_lit 1 rfl rfl) (g_eq rfl ⟨_, rfl, ?_⟩)
        rw [edp]
        by_cases hap : s.a = p
        · rw [if_pos (decide_eq_true hap)]
          refine g_ixT hs (at_lit 3 rfl rfl) (hR _ H7 (Keep.refl _ _) ?_ fun H8 k8 => ?_)
          · rw [hacc, List.length_map]; exact len100 i
          · rw [hacc, filt_oneX e, decide_eq_true hap]; simp
        · rw [if_neg (by rw [decide_eq_false hap]; decide)]
          exact hR0 H7 (Keep.refl _ _) (by rw [hacc, filt_oneX e, decide_eq_false hap]; simp)
      rintro sl2 H7 acc n7 k7 e7 hacc
      rw [List.take_length] at hacc
      subst hacc
      walk_at "sx"
      have el := k7 _ _ nin0 e6
      generalize hfs : (sts.filter fun s => decide (s.a = p)) = fs at *
      have fsa : ∀ s ∈ fs, s.a = p := fun s hs => by
        rw [← hfs] at hs
        exact of_decide_eq_true (List.mem_filter.mp hs).2
      have lfs : fs.length ≤ 100 := by
        rw [← hfs]
        exact Nat.le_trans (List.length_filter_le _ _) (by omega)
      refine g_lenL el ?_
      walk_at "sx"
      rw [List.length_map]
      refine g_CR1 (S := []) (fun _ h => (List.not_mem_nil h).elim) (by omega) (by omega) ⟨fun i H' acc => acc = (((List.range i).filter fun k => (fs[k]?.map (leastB (D g))).getD false).map fun k => V.int (k : Nat)), fun D H2 _ _ => rfl, ?_, ?_⟩
      · rintro DD i H8 acc R R0 nD hi k8 eD rfl hR hR0
        have hi' : i < fs.length := by simpa using hi
        have hs : fs[i]? = some fs[i] := List.getElem?_eq_getElem hi'
        have sa := fsa _ (List.getElem_mem hi')
        generalize fs[i] = s at hs sa
        have el8 := k8 _ _ nin0 el
        have es8 := k8 _ _ nin0 e7
        walk_at "sx"
        refine g_ixL el8 (at_lit (v := mV (D g s.b)) i rfl (by rw [List.getElem?_map, hs]; rfl)) ?_
        walk_at "sx"
        have hr0 : leastB (D g) s = false → R0 H8 := fun e => hR0 H8 (Keep.refl _ _) (by dsimp only; rw [range_filt, hs]; simp [e])
        split
        · rename_i hne
          obtain ⟨e, eb⟩ : ∃ e, D g s.b = some e := by
            cases hq : D g s.b with
            | none => rw [hq] at hne; exact absurd hne (by decide)
            | some e => exact ⟨e, rfl⟩
          refine g_ixL el8 (at_lit (v := mV (D g s.b)) i rfl (by rw [List.getElem?_map, hs]; rfl)) (g_ixL es8 (at_lit (v := .int s.m) i rfl (by rw [List.getElem?_map, hs]; rfl)) ?_)
          rw [eb]
          show uAdd K (.int e) (.int s.m) H8 _
          refine e_addI.mpr (g_eq (scal_mV' _ _) ⟨_, rfl, ?_⟩)
          rw [eq_mV']
          have el' : leastB (D g) s = decide (D g p = some (e + s.m)) := by unfold leastB; rw [eb]; dsimp only; rw [sa]
          rw [← el']
          cases hlb : leastB (D g) s with
          | true =>
            rw [if_pos rfl]
            refine hR _ H8 (Keep.refl _ _) ?_ fun H9 k9 => ?_
            · rw [List.length_map]
              exact len_lt (Nat.le_trans (List.length_filter_le _ _) (by rw [List.length_range]; omega))
            · dsimp only; rw [range_filt, hs]; simp [hlb]
          | false =>
            rw [if_neg (by decide)]
            exact hr0 hlb
        · rename_i hne
          refine hr0 ?_
          unfold leastB
          cases hq : D g s.b with
          | none => rfl
          | some e => exact absurd (show (!decide (mV (some e) = V.non)) = true from rfl) (by rw [← hq]; exact hne)
      rintro gl H8 acc n8 k8 e8 rfl
      rw [Int.toNat_natCast] at e8
      walk_at "sx"
      have k48 : Keep [] H4 H8 := k5.trans (k6.trans (k7.trans k8))
      have no : (!decide (g = p) && ((D g p).isSome && !fs.any (leastB (D g)))) = false → ∀ H9, Keep [] H8 H9 → ∃ a4 a6 a12 a13 a14 a15 a16, [some (V.ref t), some (.ref sh), some (.ref c), some (.int (n : Nat)), some (.int (g : Nat)), some (.ref dl), y6, some (.int (p : Nat)), y8, y9, y10, y11, some (mV (D g p)), some (.ref ll), some (.ref sl2), some (.ref gl), y16] = [some (V.ref t), some (.ref sh), some (.ref c), some (.int (n : Nat)), a4, some (.ref dl), a6, some (.int (p : Nat)), y8, y9, y10, y11, a12, a13, a14, a15, a16] ∧ Keep [] H4 H9 ∧ ∀ g', g' < g + 1 → (!decide (g' = p) && ((D g' p).isSome && !fs.any (leastB (D g')))) = false := fun e H9 k9 =>
        ⟨_, _, _, _, _, _, _, rfl, k48.trans k9, fun g' hg2 => by
          rcases Nat.lt_succ_iff_lt_or_eq.mp hg2 with h | h
          · exact hf4 g' h
          · rw [h]; exact e⟩
      have edg : decide (V.int (p : Nat) = V.int (g : Nat)) = decide (g = p) := decide_eq_decide.mpr ⟨fun z => by injection z with z; omega, fun z => by rw [z]⟩
      refine g_ne rfl ⟨_, rfl, ?_⟩
      rw [edg]
      by_cases hgp : g = p
      · rw [if_neg (by rw [decide_eq_true hgp]; decide)]
        exact no (by rw [decide_eq_true hgp]; rfl) H8 (Keep.refl _ _)
      rw [if_pos (by rw [decide_eq_false hgp]; rfl)]
      cases ew : D g p with
      | none =>
        rw [ew] at no
        rw [if_neg (by decide)]
        exact no (by simp) H8 (Keep.refl _ _)
      | some d =>
        rw [ew] at no
        rw [if_pos (show (!decide (mV (some d) = V.non)) = true from rfl)]
        refine ⟨by walk_at "sz", fun e0 H9 n9 k9 e9 => g_eqNil (f := fun k : Nat => (k : Int)) (k9 _ _ nin0 e8) e9 ⟨_, rfl, ?_⟩⟩
        rw [filt_any]
        cases hany : fs.any (leastB (D g)) with
        | true =>
          rw [if_neg (by decide)]
          exact no (by rw [hany]; simp) H9 k9
        | false =>
          rw [if_pos (by decide)]
          refine ⟨by walk_at "sz", fun pp HA nA kA eA => bad "slack" p ?_ HA pp (k2.trans (k4.trans (k48.trans (k9.trans kA)))) eA⟩
          have hsl : slackB sts n D p = true := any_prefix hg' (by rw [decide_eq_false hgp, ew, hfs, hany]; rfl)
          unfold verd
          rw [goals, steeps, find_range hp' hsl hf3]
    · rintro σ H5 ⟨y4, y6, y12, y13, y14, y15, y16, rfl, k5, hf4⟩
      refine ⟨_, _, _, _, _, _, _, _, rfl, k4.trans k5, fun j hj => ?_⟩
      rcases Nat.lt_succ_iff_lt_or_eq.mp hj with h | h
      · exact hf3 j h
      · rw [h]; exact any_none fun g hg => hf4 g (by simpa using hg)
  · rintro σ H4 ⟨y4, y6, y7, y12, y13, y14, y15, y16, rfl, k4, hf3⟩
    have slacks : (List.range n).find? (slackB sts n D) = none := find_none fun p hp => hf3 p (by simpa using List.mem_range.mp hp)
    unfold t__law_verdict_r1
    walk_at "sx"
    exact good (by unfold verd; rw [goals, steeps, slacks]) H4 (k2.trans k4)


/-! ### what is told -/
structure PaperF (K : PySem.W.Frag) (CW CN : Addr) (cs : List Addr) : Prop where
  ex : PySem.W.exmOne K (.ref CN) (.ref CW) = some true
  ea : ExA K CN
  nw : PySem.W.findIn K (.ref CN) "word" = some none
  na : PySem.W.findIn K (.ref CN) "at" = some none
  k1 : PySem.W.kitOne K (.ref CN) (.ref CN) = some true
  k2 : PySem.W.kitOne K (.ref CN) (.type "ValueError") = some true
  k3 : PySem.W.kitAny K (.ref CN) (cs.map Value.ref) = some false
def spTold0 (L : List Addr) : Sp := fun vs H Q _ => ∃ (t sh c : Addr) (T : Tn) (zs : List Int) (D : Tab), vs = [.ref t, .ref sh, .ref c] ∧ TnAt H t T ∧ TnOk T ∧ Tup H sh (zs.map V.int) ∧ ChAt H c T.places.length D ∧ (∀ g h d, D g h = some d → 0 ≤ d) ∧ Tabs L H ∧
  (verd (stepsTo T zs T.roads.length) T.places.length D = none → ∀ H', KT L H H' → Q (.bl true) H') ∧
  ∀ w k, verd (stepsTo T zs T.roads.length) T.places.length D = some (w, k) → ∀ H' p, KT L H H' → Tup H' p [.str w, .int (k : Nat)] → Q (.ref p) H'
def spTold (K : PySem.W.Frag) (L : List Addr) : Sp := fun vs H Q E => spTold0 L vs H Q E ∨ ∃ (t sh : Addr) (v : V) (T : Tn), vs = [.ref t, .ref sh, v] ∧ TnAt H t T ∧ ThB K H T.places.length v false ∧ Tabs L H ∧ ∀ H' p, KT L H H' → Tup H' p [.str "shape", .int (0 : Nat)] → Q (.ref p) H'
theorem rel_ref {C : Addr} : ∀ u, RelV (.ref C) u → u = .ref C := fun u r => r
theorem rd_told (K : PySem.W.Frag) {CW c1 c2 c3 c4 c5 c6 c7 c8 c9 c10 CN : Addr} {L : List Addr} {P : Addr} (hP : P ∈ L) (F : PaperF K CW CN [c10, c9, c8, c7, c6, c5, c4, c3, c2, c1]) : ∀ vs H Q E, spTold K L vs H Q E →
    run (t__law_told K (spLets K CN L P) CW c1 c2 c3 c4 c5 c6 c7 c8 c9 c10 CN) (L2.start N__law_told vs) H Q := by
  rintro _ H Q _ (⟨t, sh, c, T, zs, D, rfl, hT, ok, hz, hc, pos, ht, good, bad⟩ | ⟨t, sh, v, T, rfl, hT, th, ht, bad⟩)
  rotate_left
  · obtain ⟨w, k, hw, hk, bad⟩ : ∃ (w : Str) (k : Nat), "shape" = w ∧ 0 = k ∧ ∀ H' p, KT L H H' → Tup H' p [.str w, .int (k : Nat)] → Q (.ref p) H' := ⟨_, _, rfl, rfl, bad⟩
    show run (t__law_told K (spLets K CN L P) CW c1 c2 c3 c4 c5 c6 c7 c8 c9 c10 CN) [some (.ref t), some (.ref sh), some v, none, none, none] H Q
    unfold t__law_told
    walk_at "sx"
    unfold tTryAs
    walk_at "sx"
    refine ⟨_, rfl, _, rfl, _, rfl, .inr ⟨t, sh, v, T, rfl, hT, th, ht, hP, fun H1 d k1 hd => ?_⟩⟩
    have hd : H1 d = some (xdV w k) := by rw [← hw, ← hk]; exact hd
    refine ⟨true, F.ex, fun _ a na => ?_, fun z => nomatch z⟩
    have cg : ∀ {H2 : Hp}, Keep [] H1 H2 → Caught K (.ref CN) (some d) H2 CN [("at", .int (k : Nat)), ("word", .str w)] := fun kk => ⟨rfl, F.ea, d, rfl, kk _ _ nin0 hd⟩
    walk_at "sx"
    refine ⟨by walk_at "sz", fun p1 H2 n2 k2 e2 => ?_⟩
    walk_at "sx"
    refine ⟨by walk_at "sz", fun p3 H3 n3 k3 e3 => ?_⟩
    have k13 := k2.trans k3
    refine ⟨CN, _, _, rfl, cg k13, .inr ⟨p3, [c10, c9, c8, c7, c6, c5, c4, c3, c2, c1], false, rfl, e3, F.k3, ?_⟩⟩
    walk_at "sx"
    refine ⟨CN, _, _, rfl, cg k13, .inl ⟨.ref CN, true, rel_ref, F.k1, ⟨true, rfl, ?_⟩⟩⟩
    rw [if_pos rfl]
    refine ⟨CN, _, _, rfl, cg k13, .inl ⟨.type "ValueError", true, fun u r => r, F.k2, ⟨true, rfl, ?_⟩⟩⟩
    rw [if_pos rfl]
    refine ⟨_, rfl, rfl, CN, _, .int (k : Nat), cg k13, F.na, rfl, g_isi (.base (.int _)) kit_int_bool ⟨false, rfl, ?_⟩⟩
    rw [if_pos (by decide)]
    refine ⟨_, rfl, rfl, CN, _, .str w, cg k13, F.nw, rfl, ⟨_, rfl, rfl, CN, _, .int (k : Nat), cg k13, F.na, rfl, by exact len_le (show 2 ≤ 1000000 by decide), fun p4 H4 n4 k4 e4 => ?_⟩⟩
    unfold t__law_told_r1
    walk_at "sx"
    exact bad H4 p4 (k1.trans (KT.of0 (k13.trans k4))) e4
  show run (t__law_told K (spLets K CN L P) CW c1 c2 c3 c4 c5 c6 c7 c8 c9 c10 CN) [some (.ref t), some (.ref sh), some (.ref c), none, none, none] H Q
  unfold t__law_told
  walk_at "sx"
  unfold tTryAs
  walk_at "sx"
  refine ⟨_, rfl, _, rfl, _, rfl, .inl ⟨t, sh, c, T, zs, D, rfl, hT, ok, hz, hc, pos, ht, hP, fun e H1 k1 => ?_, fun w k e H1 d k1 hd => ?_⟩⟩
  · unfold t__law_told_r1
    walk_at "sx"
    exact good e H1 k1
  · refine ⟨true, F.ex, fun _ a na => ?_, fun z => nomatch z⟩
    have cg : ∀ {H2 : Hp}, Keep [] H1 H2 → Caught K (.ref CN) (some d) H2 CN [("at", .int (k : Nat)), ("word", .str w)] := fun kk => ⟨rfl, F.ea, d, rfl, kk _ _ nin0 hd⟩
    walk_at "sx"
    refine ⟨by walk_at "sz", fun p1 H2 n2 k2 e2 => ?_⟩
    walk_at "sx"
    refine ⟨by walk_at "sz", fun p3 H3 n3 k3 e3 => ?_⟩
    have k13 := k2.trans k3
    refine ⟨CN, _, _, rfl, cg k13, .inr ⟨p3, [c10, c9, c8, c7, c6, c5, c4, c3, c2, c1], false, rfl, e3, F.k3, ?_⟩⟩
    walk_at "sx"
    refine ⟨CN, _, _, rfl, cg k13, .inl ⟨.ref CN, true, rel_ref, F.k1, ⟨true, rfl, ?_⟩⟩⟩
    rw [if_pos rfl]
    refine ⟨CN, _, _, rfl, cg k13, .inl ⟨.type "ValueError", true, fun u r => r, F.k2, ⟨true, rfl, ?_⟩⟩⟩
    rw [if_pos rfl]
    refine ⟨_, rfl, rfl, CN, _, .int (k : Nat), cg k13, F.na, rfl, g_isi (.base (.int _)) kit_int_bool ⟨false, rfl, ?_⟩⟩
    rw [if_pos (by decide)]
    refine ⟨_, rfl, rfl, CN, _, .str w, cg k13, F.nw, rfl, ⟨_, rfl, rfl, CN, _, .int (k : Nat), cg k13, F.na, rfl, by exact len_le (show 2 ≤ 1000000 by decide), fun p4 H4 n4 k4 e4 => ?_⟩⟩
    unfold t__law_told_r1
    walk_at "sx"
    exact bad w k e H4 p4 (k1.trans (KT.of0 (k13.trans k4))) e4

theorem verd_word {sts : List Stp} {n : Nat} {D : Tab} {w : Str} {k : Nat} (h : verd sts n D = some (w, k)) : w = "goal" ∨ w = "steep" ∨ w = "slack" ∨ w = "shape" := by
  unfold verd at h
  split at h
  · cases h; exact .inl rfl
  · split at h
    · cases h; exact .inr (.inl rfl)
    · split at h
      · cases h; exact .inr (.inr (.inl rfl))
      · cases h
theorem strOk_w {w : Str} (h : w = "goal" ∨ w = "steep" ∨ w = "slack" ∨ w = "shape") : PyData.strOk w = true := by
  rcases h with rfl | rfl | rfl | rfl <;> decide +kernel
/-- two tuples of a word and a number, alike -/
theorem g_neW {K : PySem.W.Frag} {H : Hp} {p q : Addr} {w : Str} {k : Nat} {Q : VK} (hw : w = "goal" ∨ w = "steep" ∨ w = "slack" ∨ w = "shape") (h1 : Tup H p [.str w, .int (k : Nat)]) (h2 : Tup H q [.str w, .int (k : Nat)]) (r : Q (.bl false) H) : uEq K true (.ref p) (.ref q) H Q := by
  have lay : PyData.canLay0 (.tuple [.str w, .int (k : Nat)]) = true := by simp [PyData.canLay0, PyData.canLayAll0, strOk_w hw]
  have sh : SeqAt.shaped (.tuple [.str w, .int (k : Nat)]) = true := by
    unfold SeqAt.shaped
    rw [Bool.and_eq_true_iff]
    exact ⟨lay, decide_eq_true (by simp [PyData.depth, PyData.depthAll])⟩
  refine .inr ⟨_, _, .tup h1.sq (.cons (.str _) (.cons (.int _) .nil)), .tup h2.sq (.cons (.str _) (.cons (.int _) .nil)), sh, sh, ?_⟩
  rw [if_pos rfl, show PyData.eqv (.tuple [.str w, .int (k : Nat)]) (.tuple [.str w, .int (k : Nat)]) = true by simp [PyData.eqv, PyData.eqvAll]]
  exact r
theorem tab_pos {sts : List Stp} {n : Nat} {D : Tab} (c : Cht sts n D) : ∀ g h d, D g h = some d → 0 ≤ d := c.pos
/-- a set of shut roads in the list of them -/
def ZsIn (H : Hp) (v : V) : Prop := ∃ (p : Addr) (zs : List Int), v = .ref p ∧ Tup H p (zs.map V.int)
theorem ZsIn.keep {S : List Addr} {H H' : Hp} {v : V} (h : ZsIn H v) (k : Keep S H H') (n : NoTup S H) : ZsIn H' v := let ⟨p, zs, e, t⟩ := h; ⟨p, zs, e, t.keep k (n _ _ t)⟩
def spLaw (K : PySem.W.Frag) (L : List Addr) : Sp := fun vs H Q _ => ∃ (a : Addr) (ns : List Int), vs = [.ref a] ∧ Scr K H a (ns.map V.int) ∧ ns.length ≤ 63 ∧ Tabs L H ∧ ∀ H', Q (.bl true) H'


def mD : Option Int → PyData
  | none => .none
  | some i => .int i
section
variable {K : PySem.W.Frag} {H : Hp}
theorem dp_mV (o : Option Int) : Dp K H (mV o) (mD o) := by
  cases o with
  | none => exact .non
  | some i => exact .int i
theorem dp_map {α : Type} (f : α → V) (g : α → PyData) : ∀ (xs : List α), (∀ x ∈ xs, Dp K H (f x) (g x)) → DpAll K H (xs.map f) (xs.map g)
  | [], _ => .nil
  | x :: xs, h => .cons (h x List.mem_cons_self) (dp_map f g xs fun y hy => h y (List.mem_cons_of_mem _ hy))
theorem dp_pt : ∀ (vs : List V) (ds : List PyData), vs.length = ds.length → (∀ (i : Nat) (v : V) (d : PyData), vs[i]? = some v → ds[i]? = some d → Dp K H v d) → DpAll K H vs ds
  | [], [], _, _ => .nil
  | v :: vs, d :: ds, l, h => .cons (h 0 v d rfl rfl) (dp_pt vs ds (by simpa using l) fun i v' d' e1 e2 => h (i + 1) v' d' (by simpa using e1) (by simpa using e2))
  | [], _ :: _, l, _ => by simp at l
  | _ :: _, [], l, _ => by simp at l
def rdD (r : Rd) : PyData := .tuple [.str r.one, .str r.two, mD r.there, mD r.back]
theorem dp_rds : ∀ {vs : List V} {rs : List Rd}, RdsAt H vs rs → DpAll K H vs (rs.map rdD)
  | _, _, .nil => .nil
  | _, _, .cons h q => .cons (.tup (Tup.sq h) (.cons (.str _) (.cons (.str _) (.cons (dp_mV _) (.cons (dp_mV _) .nil))))) (dp_rds q)
def tnD (T : Tn) : PyData := .tuple [.tuple (T.places.map .str), .tuple (T.roads.map rdD), .tuple (T.stands.map .str), .int T.reach]
theorem dp_tn {t : Addr} {T : Tn} (h : TnAt H t T) : Dp K H (.ref t) (tnD T) := by
  obtain ⟨ap, ar, as, vs, h1, h2, h3, h4, h5⟩ := h
  exact .tup h1.sq (.cons (.tup h2.sq (dp_map _ _ _ fun x _ => .str x)) (.cons (.tup h3.sq (dp_rds h4)) (.cons (.tup h5.sq (dp_map _ _ _ fun x _ => .str x)) (.cons (.int _) .nil))))
def chD (n : Nat) (D : Tab) : PyData := .tuple ((List.range n).map fun g => .tuple ((List.range n).map fun h => mD (D g h)))
theorem dp_ch {c : Addr} {n : Nat} {D : Tab} (h : ChAt H c n D) : Dp K H (.ref c) (chD n D) := by
  obtain ⟨vs, h1, h2, h3⟩ := h
  refine .tup h1.sq (dp_pt _ _ (by rw [List.length_map, List.length_range, h2]) fun i v d e1 e2 => ?_)
  have hi := (List.getElem?_eq_some_iff.mp e1).1
  obtain ⟨p, e, t⟩ := h3 i (by omega)
  rw [e] at e1
  cases e1
  rw [List.getElem?_map, List.getElem?_range (by omega)] at e2
  cases e2
  exact .tup t.sq (dp_map _ _ _ fun x _ => dp_mV _)
end
/-! ### only the least chart is let by -/
theorem verd_none {sts : List Stp} {n : Nat} {D : Tab} (h : verd sts n D = none) : (∀ g, g < n → D g g = some 0) ∧ (∀ s ∈ sts, ∀ g, g < n → stpB (D g) s = false) ∧ ∀ p, p < n → ∀ g, g < n → g ≠ p → ∀ d, D g p = some d → ∃ s ∈ sts, s.a = p ∧ leastB (D g) s = true := by
  unfold verd at h
  split at h
  · cases h
  · rename_i h1
    split at h
    · cases h
    · rename_i h2
      split at h
      · cases h
      · rename_i h3
        rw [List.find?_eq_none] at h1 h2 h3
        refine ⟨fun g hg => ?_, fun s hs g hg => ?_, fun p hp g hg hne d e => ?_⟩
        · have := h1 g (List.mem_range.mpr hg)
          unfold goalB at this
          simpa using this
        · have := h2 s hs
          unfold steepB at this
          rw [Bool.not_eq_true, List.any_eq_false] at this
          simpa using this g (List.mem_range.mpr hg)
        · have := h3 p (List.mem_range.mpr hp)
          unfold slackB at this
          rw [Bool.not_eq_true, List.any_eq_false] at this
          have t := this g (List.mem_range.mpr hg)
          rw [decide_eq_false hne, e] at t
          simp only [Bool.not_false, Option.isSome_some, Bool.true_and, Bool.not_eq_true', Bool.not_eq_false, Bool.not_eq_true] at t
          obtain ⟨s, hs, l⟩ := List.any_eq_true.mp t
          obtain ⟨m1, m2⟩ := List.mem_filter.mp hs
          exact ⟨s, m1, of_decide_eq_true m2, l⟩
theorem not_steep {f : Nat → Option Int} {s : Stp} {e : Int} (h : stpB f s = false) (eb : f s.b = some e) : ∃ d, f s.a = some d ∧ d ≤ e + s.m := by
  unfold stpB at h
  rw [eb] at h
  dsimp only at h
  cases ea : f s.a with
  | none => rw [ea] at h; cases h
  | some d =>
    rw [ea] at h
    exact ⟨d, rfl, by have := of_decide_eq_false h; omega⟩
theorem below {sts : List Stp} {n k : Nat} {D : Tab} (h0 : ∀ g, g < n → D g g = some 0) (hs : ∀ s ∈ sts, ∀ g, g < n → stpB (D g) s = false) {h g : Nat} {L : Int} (w : Wl sts k h g L) : g < n → ∃ d, D g h = some d ∧ d ≤ L := by
  induction w with
  | nil h => intro hg; exact ⟨0, h0 h hg, Int.le_refl _⟩
  | @one s m =>
    intro hg
    obtain ⟨d, e, l⟩ := not_steep (hs s m s.b hg) (h0 s.b hg)
    exact ⟨d, e, by omega⟩
  | @cons s g L m hb w ih =>
    intro hg
    obtain ⟨e, e1, l1⟩ := ih hg
    obtain ⟨d, e2, l2⟩ := not_steep (hs s m g hg) e1
    exact ⟨d, e2, by omega⟩
theorem least_at {f : Nat → Option Int} {s : Stp} {d : Int} (h : leastB f s = true) (ea : f s.a = some d) : ∃ e, f s.b = some e ∧ d = e + s.m := by
  unfold leastB at h
  cases eb : f s.b with
  | none => rw [eb] at h; cases h
  | some e =>
    rw [eb] at h
    have := of_decide_eq_true h
    rw [ea] at this
    exact ⟨e, rfl, Option.some.inj this⟩
theorem walked {sts : List Stp} {n : Nat} {D : Tab} (hm : ∀ s ∈ sts, 1 ≤ s.m) (hb : ∀ s ∈ sts, s.a < n ∧ s.b < n) (pos : ∀ g h d, D g h = some d → 0 ≤ d) (h0 : ∀ g, g < n → D g g = some 0)
    (hl : ∀ p, p < n → ∀ g, g < n → g ≠ p → ∀ d, D g p = some d → ∃ s ∈ sts, s.a = p ∧ leastB (D g) s = true) : ∀ (m : Nat) (g h : Nat) (d : Int), d.toNat ≤ m → g < n → h < n → D g h = some d → Wl sts n h g d := by
  intro m
  induction m with
  | zero =>
    intro g h d hd hg hh e
    have p := pos g h d e
    by_cases hgh : g = h
    · subst hgh
      rw [h0 g hg] at e
      cases e
      exact .nil g
    · obtain ⟨s, hs, ea, l⟩ := hl h hh g hg hgh d e
      obtain ⟨x, ex, rfl⟩ := least_at l (by rw [ea]; exact e)
      have := pos g s.b x ex
      have := hm s hs
      omega
  | succ m ih =>
    intro g h d hd hg hh e
    have p := pos g h d e
    by_cases hgh : g = h
    · subst hgh
      rw [h0 g hg] at e
      cases e
      exact .nil g
    · obtain ⟨s, hs, ea, l⟩ := hl h hh g hg hgh d e
      obtain ⟨x, ex, rfl⟩ := least_at l (by rw [ea]; exact e)
      have := pos g s.b x ex
      have := hm s hs
      have w := Wl.cons hs (hb s hs).2 (ih g s.b x (by omega) hg (hb s hs).2 ex)
      rw [ea, Int.add_comm] at w
      exact w
theorem verd_only {sts : List Stp} {n : Nat} {D D' : Tab} (hm : ∀ s ∈ sts, 1 ≤ s.m) (hb : ∀ s ∈ sts, s.a < n ∧ s.b < n) (c : Cht sts n D) (pos : ∀ g h d, D' g h = some d → 0 ≤ d) (v : verd sts n D' = none) : ∀ g h, g < n → h < n → D' g h = D g h := by
  obtain ⟨a0, a1, a2⟩ := verd_none v
  intro g h hg hh
  cases e : D' g h with
  | some d' =>
    obtain ⟨d, e1, l1⟩ := c.lo h g d' hh hg (walked hm hb pos a0 a2 d'.toNat g h d' (Nat.le_refl _) hg hh e)
    obtain ⟨d2, e2, l2⟩ := below a0 a1 (c.sn g h d e1) hg
    rw [e] at e2
    cases e2
    rw [e1, show d' = d by omega]
  | none =>
    cases e1 : D g h with
    | none => rfl
    | some d =>
      obtain ⟨d2, e2, l2⟩ := below a0 a1 (c.sn g h d e1) hg
      rw [e] at e2
      cases e2
/-! ### == of two charts -/
theorem eqv_all_map {α : Type} (f g : α → PyData) (xs : List α) : PyData.eqvAll (xs.map f) (xs.map g) = xs.all fun x => PyData.eqv (f x) (g x) := by
  induction xs with
  | nil => simp [PyData.eqvAll]
  | cons x xs ih => rw [List.map_cons, List.map_cons, PyData.eqvAll, ih, List.all_cons]
theorem eqv_mD (a b : Option Int) : PyData.eqv (mD a) (mD b) = decide (a = b) := by
  cases a with
  | none => cases b <;> simp [mD, PyData.eqv]
  | some i => cases b with
    | none => simp [mD, PyData.eqv]
    | some j => rw [Bool.eq_iff_iff]; simp [mD, PyData.eqv]
def sameB (n : Nat) (D D' : Tab) : Bool := (List.range n).all fun g => (List.range n).all fun h => decide (D g h = D' g h)
theorem eqv_ch (n : Nat) (D D' : Tab) : PyData.eqv (chD n D) (chD n D') = sameB n D D' := by
  unfold chD sameB
  rw [PyData.eqv, eqv_all_map]
  refine List.all_congr rfl fun g => ?_
  rw [PyData.eqv, eqv_all_map]
  exact List.all_congr rfl fun h => eqv_mD _ _
theorem sameB_iff {n : Nat} {D D' : Tab} : sameB n D D' = true ↔ ∀ g h, g < n → h < n → D g h = D' g h := by
  unfold sameB
  simp only [List.all_eq_true, List.mem_range, decide_eq_true_eq]
  exact ⟨fun z g h hg hh => z g hg h hh, fun z g hg h hh => z g h hg hh⟩
theorem lay_all {α : Type} (f : α → PyData) (k : Nat) : ∀ xs : List α, (∀ x ∈ xs, PyData.canLay0 (f x) = true ∧ PyData.depth (f x) ≤ k) → PyData.canLayAll0 (xs.map f) = true ∧ PyData.depthAll (xs.map f) ≤ k
  | [], _ => by simp [PyData.canLayAll0, PyData.depthAll]
  | x :: xs, h => by
    obtain ⟨a, b⟩ := lay_all f k xs fun y hy => h y (List.mem_cons_of_mem _ hy)
    obtain ⟨c, d⟩ := h x List.mem_cons_self
    simp only [List.map_cons, PyData.canLayAll0, PyData.depthAll, a, c, Bool.and_self, true_and]
    omega
theorem lay_mD (o : Option Int) : PyData.canLay0 (mD o) = true ∧ PyData.depth (mD o) ≤ 0 := by cases o <;> simp [mD, PyData.canLay0, PyData.depth]
theorem shaped_ch (n : Nat) (D : Tab) : SeqAt.shaped (chD n D) = true := by
  have h2 : ∀ g ∈ List.range n, PyData.canLay0 (.tuple ((List.range n).map fun h => mD (D g h))) = true ∧ PyData.depth (.tuple ((List.range n).map fun h => mD (D g h))) ≤ 1 := fun g _ => by
    obtain ⟨a, b⟩ := lay_all (fun h => mD (D g h)) 0 (List.range n) fun h _ => lay_mD _
    simp only [PyData.canLay0, PyData.depth]
    exact ⟨a, by omega⟩
  obtain ⟨a, b⟩ := lay_all _ 1 (List.range n) h2
  unfold SeqAt.shaped chD
  rw [Bool.and_eq_true_iff]
  simp only [PyData.canLay0, PyData.depth]
  exact ⟨a, decide_eq_true (by omega)⟩
theorem g_eqCh {K : PySem.W.Frag} {H : Hp} {a b : Addr} {n : Nat} {D D' : Tab} {ne : Bool} {Q : VK} (ha : ChAt H a n D) (hb : ChAt H b n D') (q : Q (.bl (if ne then !sameB n D D' else sameB n D D')) H) : uEq K ne (.ref a) (.ref b) H Q := by
  refine .inr ⟨_, _, dp_ch ha, dp_ch hb, shaped_ch n D, shaped_ch n D', ?_⟩
  rw [eqv_ch]
  exact q
theorem ChAt.congr {H : Hp} {c : Addr} {n : Nat} {D D' : Tab} (h : ChAt H c n D) (e : ∀ g h, g < n → h < n → D g h = D' g h) : ChAt H c n D' := by
  obtain ⟨vs, h1, h2, h3⟩ := h
  refine ⟨vs, h1, h2, fun g hg => ?_⟩
  obtain ⟨p, e1, t⟩ := h3 g hg
  refine ⟨p, e1, ?_⟩
  have : rowV n (D g) = rowV n (D' g) := by
    unfold rowV
    refine List.map_congr_left fun i hi => ?_
    rw [e g i hg (List.mem_range.mp hi)]
  rw [← this]
  exact t


/-! ### the first road, asked of the chart -/
def spLFirst : Sp := fun vs H Q _ => ∃ (t sh c : Addr) (h g : Nat) (T : Tn) (zs : List Int) (D : Tab), vs = [.ref t, .ref sh, .ref c, .int (h : Nat), .int (g : Nat)] ∧ TnAt H t T ∧ TnOk T ∧ Tup H sh (zs.map V.int) ∧ ChAt H c T.places.length D ∧ Cht (stepsTo T zs T.roads.length) T.places.length D ∧ h < T.places.length ∧ g < T.places.length ∧
  ∀ H', Keep [] H H' → Q (fstV ((stepsTo T zs T.roads.length).find? (fstP D h g))) H'
theorem fst_same {sts : List Stp} {n : Nat} {D : Tab} {g : Nat} (c : Cht sts n D) (hm : ∀ s ∈ sts, 1 ≤ s.m) (hg : g < n) : sts.find? (fstP D g g) = none := by
  cases e : sts.find? (fstP D g g) with
  | none => rfl
  | some s =>
    obtain ⟨hs, _, v, ev, ed⟩ := fst_some e
    rw [c.d0 g hg] at ed
    have := c.pos _ _ _ ev
    have := hm s hs
    have := Option.some.inj ed
    omega
theorem last_at {us : List V} {v : V} (h : us.getLast? = some v) : atI us (-1) = some v := by
  cases us with
  | nil => cases h
  | cons a as =>
    unfold atI ixN
    rw [List.getLast?_eq_getElem?] at h
    rw [if_neg (by omega), if_pos (by simp only [List.length_cons]; omega)]
    have : ((-1 : Int) + ((a :: as).length : Nat)).toNat = (a :: as).length - 1 := by simp only [List.length_cons]; omega
    simp only [this]
    exact h
theorem rd_lfirst (K : PySem.W.Frag) : ∀ vs H Q E, spLFirst vs H Q E → run (t__law_first K spSteps) (L2.start N__law_first vs) H Q := by
  rintro _ H Q _ ⟨t, sh, c, h, g, T, zs, D, rfl, hT, ok, hz, hc, ch, hh, hg, q⟩
  show run (t__law_first K spSteps) [some (.ref t), some (.ref sh), some (.ref c), some (.int (h : Nat)), some (.int (g : Nat)), none, none, none, none, none, none, none] H Q
  have hb := steps_in (zs := zs) ok
  have hm := steps_pos (zs := zs) (n := T.roads.length) ok
  have sl := stepsTo_len T zs T.roads.length
  have r18 := ok.r18
  have p10 := ok.p10
  unfold t__law_first
  walk_at "sx"
  refine ch_get hc hg hh ?_
  refine ⟨by walk_at "sz", fun l H1 n1 k1 e1 => ?_⟩
  refine e_forRv.mpr ?_
  walk_at "sx"
  refine ⟨t, sh, T, zs, rfl, hT.keep k1 noTup0, ok, hz.keep k1 nin0, fun dl H2 us n2 k2 e2 w2 => ?_⟩
  generalize hsts : stepsTo T zs T.roads.length = sts at *
  have ln := w2.len
  have nl : H l = none := n1
  have ldl : l ≠ dl := fun z => by rw [z] at e1; rw [e1] at n2; cases n2
  refine g_FRv (fun i σ H' => ∃ y7 y8 y9 y10 y11 vs, σ = [some (.ref t), some (.ref sh), some (.ref c), some (.int (h : Nat)), some (.int (g : Nat)), some (mV (D g h)), some (.ref l), y7, y8, y9, y10, y11] ∧ Keep [l] H2 H' ∧ H' l = some (.lst vs) ∧ vs.length ≤ i + 1 ∧
    vs.getLast? = some (fstV (if h = g then none else (sts.drop (us.length - i)).find? (fstP D h g)))) e2 ⟨_, _, _, _, _, [V.non], rfl, Keep.refl _ _, k2 _ _ nin0 e1, Nat.le_refl _, ?_⟩ ?_ ?_ ?_
  · rw [Nat.sub_zero, ln, List.drop_length, List.find?_nil]
    split <;> rfl
  · rintro i σ H' _ ⟨y7, y8, y9, y10, y11, vs, rfl, k, _⟩
    exact k _ _ (nin1 ldl.symm) e2
  · rintro i x σ H3 hi hx ⟨y7, y8, y9, y10, y11, vs, rfl, k3, e3, l3, g3⟩
    obtain ⟨s, sp, hs, rfl, ts⟩ := w2.got hx
    have hm' := List.mem_of_getElem? hs
    obtain ⟨ha, hb'⟩ := hb s hm'
    have ts3 := ts.keep k3 (nin1 (ts.neL (k2 _ _ nin0 e1)))
    have k03 : Keep [] H H3 := (k1.trans k2).past k3 nl
    have hc3 := hc.keep k03
    refine g_tupX ts3 rfl ?_
    unfold stV
    walk_at "sx"
    refine ⟨_, _, rfl, _, _, rfl, _, _, rfl, _, _, rfl, rfl, ?_⟩
    unfold t__law_first_b1
    walk_at "sx"
    refine ch_get hc3 hg hb' ?_
    have dr : sts.drop (us.length - (i + 1)) = s :: sts.drop (us.length - i) := by
      rw [show us.length - (i + 1) = us.length - 1 - i by omega]
      obtain ⟨h1, h2⟩ := List.getElem?_eq_some_iff.mp hs
      rw [List.drop_eq_getElem_cons h1, h2, show us.length - 1 - i + 1 = us.length - i by omega]
    have skip : fstP D h g s = false ∨ h = g → ∃ z7 z8 z9 z10 z11 vs, [some (V.ref t), some (.ref sh), some (.ref c), some (.int (h : Nat)), some (.int (g : Nat)), some (mV (D g h)), some (.ref l), some (.int (s.k : Nat)), some (.int (s.a : Nat)), some (.int (s.b : Nat)), some (.int s.m), some (mV (D g s.b))] = [some (V.ref t), some (.ref sh), some (.ref c), some (.int (h : Nat)), some (.int (g : Nat)), some (mV (D g h)), some (.ref l), z7, z8, z9, z10, z11] ∧ Keep [l] H2 H3 ∧ H3 l = some (.lst vs) ∧ vs.length ≤ i + 1 + 1 ∧
        vs.getLast? = some (fstV (if h = g then none else (sts.drop (us.length - (i + 1))).find? (fstP D h g))) := fun e => ⟨_, _, _, _, _, vs, rfl, k3, e3, by omega, by
      rw [g3, dr]
      by_cases hg' : h = g
      · rw [if_pos hg', if_pos hg']
      · rcases e with e | e
        · rw [if_neg hg', if_neg hg', List.find?_cons_of_neg (by rw [e]; decide)]
        · exact absurd e hg'⟩
    have edg : ∀ {a b : Nat}, decide (V.int (a : Nat) = V.int (b : Nat)) = decide (a = b) := fun {a b} => decide_eq_decide.mpr ⟨fun z => by injection z with z; omega, fun z => by rw [z]⟩
    refine g_ne rfl ⟨_, rfl, ?_⟩
    rw [edg]
    by_cases hg' : h = g
    · rw [if_neg (by rw [decide_eq_true hg']; decide)]
      exact skip (.inr hg')
    rw [if_pos (by rw [decide_eq_false hg']; rfl)]
    refine g_eq rfl ⟨_, rfl, ?_⟩
    rw [edg]
    by_cases hah : s.a = h
    · rw [if_pos (decide_eq_true hah)]
      cases eb : D g s.b with
      | none =>
        rw [eb] at skip
        rw [if_neg (by decide)]
        exact skip (.inl (by unfold fstP leastB; rw [eb, Bool.and_false]))
      | some d =>
        rw [eb] at skip
        rw [if_pos (show (!decide (mV (some d) = V.non)) = true from rfl)]
        show uAdd K (.int d) (.int s.m) H3 _
        refine e_addI.mpr (g_eq (scal_mV' _ _) ⟨_, rfl, ?_⟩)
        rw [eq_mV']
        have es : fstP D h g s = decide (D g h = some (d + s.m)) := by
          unfold fstP leastB
          rw [eb, decide_eq_true hah, Bool.true_and, hah]
        cases hd : decide (D g h = some (d + s.m)) with
        | true =>
          rw [if_pos rfl]
          refine ⟨.inl ⟨rfl, _, .inl (.inl e3)⟩, g_append e3 (len_lt (by omega)) fun H4 k4 e4 => ⟨_, _, _, _, _, _, rfl, k3.trans k4, e4, by rw [List.length_append]; exact Nat.add_le_add_right l3 1, ?_⟩⟩
          rw [List.getLast?_concat, dr, if_neg hg', List.find?_cons_of_pos (by rw [es]; exact hd)]
          rfl
        | false =>
          rw [if_neg (by decide)]
          exact skip (.inl (by rw [es]; exact hd))
    · rw [if_neg (by rw [decide_eq_false hah]; decide)]
      exact skip (.inl (by unfold fstP; rw [decide_eq_false hah, Bool.false_and]))
  · rintro σ H3 ⟨y7, y8, y9, y10, y11, vs, rfl, k3, e3, l3, g3⟩
    unfold t__law_first_r1
    walk_at "sx"
    have k03 : Keep [] H H3 := (k1.trans k2).past k3 nl
    refine g_ixL e3 (last_at g3) ?_
    rw [Nat.sub_self, List.drop_zero]
    by_cases hg' : h = g
    · rw [if_pos hg']
      have := q H3 k03
      subst hg'
      rw [fst_same ch hm hg] at this
      exact this
    · rw [if_neg hg']
      exact q H3 k03


/-! ### the steps as the law reads them -/
theorem pl_inj {T : Tn} (nd : T.places.Nodup) {a b : Nat} (ha : a < T.places.length) (hb : b < T.places.length) (h : plOf T a = plOf T b) : a = b := by
  unfold plOf at h
  rw [List.getD_eq_getElem?_getD, List.getD_eq_getElem?_getD, List.getElem?_eq_getElem ha, List.getElem?_eq_getElem hb] at h
  exact (List.getElem_inj nd).mp h
theorem pl_mem {T : Tn} {a : Nat} (ha : a < T.places.length) : plOf T a ∈ T.places := by
  unfold plOf
  rw [List.getD_eq_getElem?_getD, List.getElem?_eq_getElem ha]
  exact List.getElem_mem ha
theorem pIx_pl {T : Tn} (nd : T.places.Nodup) {a : Nat} (ha : a < T.places.length) : pIx T.places (plOf T a) = a := pl_inj nd (pIx_lt (pl_mem ha)) ha (pl_pIx (pl_mem ha))
theorem stepsTo_mem {T : Tn} {zs : List Int} {n k : Nat} (h : k < n) {s : Stp} (hs : s ∈ stepsAt T zs k) : s ∈ stepsTo T zs n := List.mem_flatMap.mpr ⟨k, List.mem_range.mpr h, hs⟩
theorem stepsAt_open {T : Tn} {zs : List Int} {k : Nat} {s : Stp} (hs : s ∈ stepsAt T zs k) : s.k = k ∧ (k : Int) ∉ zs := by
  unfold stepsAt at hs
  cases e : T.roads[k]? with
  | none => rw [e] at hs; cases hs
  | some r =>
    rw [e] at hs
    simp only at hs
    by_cases hz : (k : Int) ∈ zs
    · rw [if_pos hz] at hs; cases hs
    · rw [if_neg hz] at hs
      refine ⟨?_, hz⟩
      rcases List.mem_append.mp hs with h | h
      · unfold thereOf at h
        split at h
        · cases h
        · rw [List.mem_singleton.mp h]
      · unfold backOf at h
        split at h
        · cases h
        · rw [List.mem_singleton.mp h]
theorem stepsTo_open {T : Tn} {zs : List Int} {n : Nat} {s : Stp} (hs : s ∈ stepsTo T zs n) : (s.k : Int) ∉ zs := by
  obtain ⟨k, _, hk⟩ := List.mem_flatMap.mp hs
  obtain ⟨h1, h2⟩ := stepsAt_open hk
  rw [h1]
  exact h2
/-- each step that leads on is among the steps -/
theorem steps_all {T : Tn} {zs : List Int} {k h : Nat} (ok : TnOk T) (hk : k < T.roads.length) (hz : (k : Int) ∉ zs) (hh : h < T.places.length) {y : Str} {m : Int} (e : led T k (plOf T h) = some (y, m)) : ∃ s ∈ stepsTo T zs T.roads.length, s.k = k ∧ s.a = h := by
  have key : ∃ s ∈ stepsAt T zs k, s.k = k ∧ s.a = h := by
    unfold led at e
    unfold stepsAt
    rw [List.getElem?_eq_getElem hk] at e ⊢
    generalize T.roads[k] = r at e
    simp only at e ⊢
    rw [if_neg hz]
    cases h1 : (if plOf T h = r.one then r.there else none) with
    | some m1 =>
      split at h1
      · rename_i hp
        refine ⟨⟨k, pIx T.places r.one, pIx T.places r.two, m1⟩, List.mem_append_left _ ?_, rfl, ?_⟩
        · unfold thereOf
          rw [h1]
          exact List.mem_singleton.mpr rfl
        · show pIx T.places r.one = h
          rw [← hp, pIx_pl ok.nd hh]
      · cases h1
    | none =>
      rw [h1] at e
      simp only at e
      cases h2 : (if plOf T h = r.two then r.back else none) with
      | some m2 =>
        split at h2
        · rename_i hp
          refine ⟨⟨k, pIx T.places r.two, pIx T.places r.one, m2⟩, List.mem_append_right _ ?_, rfl, ?_⟩
          · unfold backOf
            rw [h2]
            exact List.mem_singleton.mpr rfl
          · show pIx T.places r.two = h
            rw [← hp, pIx_pl ok.nd hh]
        · cases h2
      | none => rw [h2] at e; cases e
  obtain ⟨s, hs, e1⟩ := key
  exact ⟨s, stepsTo_mem hk hs, e1⟩
/-- what a step of the list says of a way -/
theorem goI_step {T : Tn} {zs : List Int} (ok : TnOk T) {s : Stp} (hs : s ∈ stepsTo T zs T.roads.length) : goI T zs (plOf T s.a) (s.k : Int) = some (plOf T s.b) := by
  have so := stepsTo_ok ok hs
  have := so.k
  unfold goI
  rw [if_pos ⟨by omega, by omega, stepsTo_open hs⟩, Int.toNat_natCast, so.go]
  rfl
theorem goI_none {T : Tn} {zs : List Int} (ok : TnOk T) {i : Int} {h : Nat} (hh : h < T.places.length) (no : ∀ s ∈ stepsTo T zs T.roads.length, ¬ ((s.k : Int) = i ∧ s.a = h)) : goI T zs (plOf T h) i = none := by
  unfold goI
  by_cases hi : 0 ≤ i ∧ i < (T.roads.length : Int) ∧ i ∉ zs
  · rw [if_pos hi]
    cases e : led T i.toNat (plOf T h) with
    | none => rfl
    | some w =>
      obtain ⟨s, hs, e1, e2⟩ := steps_all ok (k := i.toNat) (by omega) (by rw [Int.toNat_of_nonneg hi.1]; exact hi.2.2) hh (y := w.1) (m := w.2) e
      exact absurd ⟨by omega, e2⟩ (no s hs)
  · rw [if_neg hi]
/-! ### the steps of a road from a place -/
def hereP (h : Nat) (i : Int) (s : Stp) : Bool := decide ((s.k : Int) = i ∧ (s.a : Int) = (h : Nat))
theorem sel_cases {T : Tn} {zs : List Int} (ok : TnOk T) {i : Int} {h : Nat} (hh : h < T.places.length) :
    ((stepsTo T zs T.roads.length).filter (hereP h i) = [] ∧ goI T zs (plOf T h) i = none) ∨ ∃ s ss, (stepsTo T zs T.roads.length).filter (hereP h i) = s :: ss ∧ s ∈ stepsTo T zs T.roads.length ∧ (s.k : Int) = i ∧ s.a = h ∧ goI T zs (plOf T h) i = some (plOf T s.b) := by
  cases e : (stepsTo T zs T.roads.length).filter (hereP h i) with
  | nil =>
    refine .inl ⟨rfl, goI_none ok hh fun s hs ⟨e1, e2⟩ => ?_⟩
    have := List.filter_eq_nil_iff.mp e s hs
    exact this (decide_eq_true ⟨e1, by rw [e2]⟩)
  | cons s ss =>
    have hm : s ∈ (stepsTo T zs T.roads.length).filter (hereP h i) := by rw [e]; exact List.mem_cons_self
    obtain ⟨m1, m2⟩ := List.mem_filter.mp hm
    obtain ⟨e1, e2⟩ := of_decide_eq_true m2
    have e2' : s.a = h := by omega
    refine .inr ⟨s, ss, rfl, m1, e1, e2', ?_⟩
    have := goI_step ok m1
    rw [e1, e2'] at this
    exact this
theorem sel_steps {K : PySem.W.Frag} {g : TG} {tt : TT} {te : TE} {vs : List Nat} {σ : L2.St} {Q : VK} {H : Hp} {dl : Addr} {us : List V} {sts : List Stp} {h : Nat} {i : Int} (e : H dl = some (.lst us)) (w : Rws stV H us sts) (l : sts.length ≤ 100)
    (step : ∀ p s H2 (R : VK) (R0 : Hp → Prop), Tup H2 p (stV s) → (∀ H3, Keep [] H2 H3 → hereP h i s = true → R (.int (s.b : Nat)) H3) → (∀ H3, Keep [] H2 H3 → hereP h i s = false → R0 H3) → g (.ref p) (wipe σ vs) H2 fun σ2 H3 => wipe σ2 vs = wipe σ vs ∧ tt σ2 H3 fun b H4 => if b = true then te σ2 H4 R else R0 H4)
    (q : ∀ L H', H L = none → Keep [] H H' → H' L = some (.lst ((sts.filter (hereP h i)).map fun s => V.int (s.b : Nat))) → Q (.ref L) H') : CU K g tt te vs σ Q (.ref dl) H := by
  refine g_CL (S := []) (fun _ h => (List.not_mem_nil h).elim) e nin0 ⟨fun j H' acc => acc = ((sts.take j).filter (hereP h i)).map fun s => V.int (s.b : Nat), fun _ _ _ _ => rfl, ?_, ?_⟩
  · rintro L j H2 acc R R0 nL hj k2 eL rfl hR hR0
    have hx := List.getElem?_eq_getElem hj
    obtain ⟨s, sp, hs, es, ts⟩ := w.got hx
    dsimp only
    rw [List.getD_eq_getElem?_getD, hx, Option.getD_some, es]
    have cnt : ((sts.take j).filter (hereP h i)).length ≤ 100 := Nat.le_trans (List.length_filter_le _ _) (by rw [List.length_take]; omega)
    refine step sp s H2 R R0 (ts.keep k2 nin0) (fun H3 k3 eh => hR _ H3 k3 (by rw [List.length_map]; exact len_lt (by omega)) fun H5 k5 => ?_) fun H3 k3 eh => hR0 H3 k3 ?_
    · dsimp only
      rw [filt_oneX hs, if_pos eh, List.map_append]; rfl
    · dsimp only
      rw [filt_oneX hs, if_neg (by rw [eh]; decide), List.append_nil]
  · rintro L H2 acc nL k2 eL rfl
    rw [w.len, List.take_length] at eL
    exact q L H2 nL k2 eL
/-! ### a way by the chart, and where a way leads -/
theorem cut_st {s : Stp} : cutV (stV s) none (some 2) = [.int (s.k : Nat), .int (s.a : Nat)] := rfl
def spLLeads : Sp := fun vs H Q _ => ∃ (t sh rs : Addr) (h g : Nat) (T : Tn) (zs ks : List Int), vs = [.ref t, .ref sh, .int (h : Nat), .int (g : Nat), .ref rs] ∧ TnAt H t T ∧ TnOk T ∧ Tup H sh (zs.map V.int) ∧ Tup H rs (ks.map V.int) ∧ h < T.places.length ∧ g < T.places.length ∧
  ∀ H', Keep [] H H' → Q (.bl (decide (goV T zs (plOf T h) (ks.map V.int) = some (plOf T g)))) H'
theorem rd_lleads (K : PySem.W.Frag) : ∀ vs H Q E, spLLeads vs H Q E → run (t__law_leads K spSteps) (L2.start N__law_leads vs) H Q := by
  rintro _ H Q _ ⟨t, sh, rs, h, g, T, zs, ks, rfl, hT, ok, hz, hks, hh, hg, q⟩
  show run (t__law_leads K spSteps) [some (.ref t), some (.ref sh), some (.int (h : Nat)), some (.int (g : Nat)), some (.ref rs), none, none, none] H Q
  have sl := stepsTo_len T zs T.roads.length
  have r18 := ok.r18
  unfold t__law_leads
  walk_at "sx"
  refine g_FT (fun j σ H' => ∃ x y5 y6 y7, σ = [some (.ref t), some (.ref sh), some (.int ((x : Nat) : Int)), some (.int (g : Nat)), some (.ref rs), y5, y6, y7] ∧ Keep [] H H' ∧ x < T.places.length ∧ goV T zs (plOf T h) (ks.map V.int) = goV T zs (plOf T x) ((ks.drop j).map V.int)) hks ⟨h, _, _, _, rfl, Keep.refl _ _, hh, rfl⟩ (fun i σ H' _ ⟨_, _, _, _, _, k, _⟩ => hks.keep k nin0) ?_ ?_
  · rintro j v σ H1 hx ⟨x, y5, y6, y7, rfl, k1, hxn, ego⟩
    rw [List.getElem?_map] at hx
    obtain ⟨i, hi, rfl⟩ := Option.map_eq_some_iff.mp hx
    obtain ⟨h1, h2⟩ := List.getElem?_eq_some_iff.mp hi
    rw [List.drop_eq_getElem_cons h1, h2, List.map_cons] at ego
    have ego : goV T zs (plOf T h) (ks.map V.int) = (goI T zs (plOf T x) i).bind fun y => goV T zs y ((ks.drop (j + 1)).map V.int) := ego
    unfold t__law_leads_b1
    walk_at "sx"
    refine ⟨t, sh, T, zs, rfl, hT.keep k1 noTup0, ok, hz.keep k1 nin0, fun dl H2 us n2 k2 e2 w2 => ?_⟩
    refine sel_steps (h := x) (i := i) e2 w2 (by omega) (fun p s H3 R R0 tp r1 r0 => ?_) fun L H3 nL k3 eL => ?_
    · walk_at "sx"
      refine g_slT tp fun l H4 k4 f4 => ?_
      rw [cut_st] at f4
      refine ⟨by walk_at "sz", fun l2 H5 n5 k5 f5 => eq_pair (f4.keep k5 nin0) f5 ⟨_, rfl, ?_⟩⟩
      have k45 := k4.trans k5
      cases e : hereP x i s with
      | true =>
        rw [if_pos (show decide ((s.k : Int) = i ∧ (s.a : Int) = (x : Nat)) = true from e)]
        exact g_ixT (tp.keep k45 nin0) (at_lit 2 rfl rfl) (r1 H5 k45 e)
      | false =>
        rw [if_neg (by rw [show decide ((s.k : Int) = i ∧ (s.a : Int) = (x : Nat)) = false from e]; decide)]
        exact r0 H5 k45 e
    · walk_at "sx"
      refine ⟨by walk_at "sz", fun e0 H4 n4 k4 e4 => g_eqNil (f := fun s : Stp => (s.b : Int)) (k4 _ _ nin0 eL) e4 ⟨_, rfl, ?_⟩⟩
      have k14 := k1.trans (k2.trans (k3.trans k4))
      rcases sel_cases (zs := zs) ok (i := i) hxn with ⟨ef, eg⟩ | ⟨s, ss, ef, hs, _, _, eg⟩
      · rw [ef, if_pos (show ([] : List Stp).isEmpty = true from rfl)]
        have := q H4 k14
        rw [ego, eg] at this
        rw [decide_eq_false (fun z => nomatch z)] at this
        exact this
      · rw [ef] at eL
        rw [ef, if_neg (show ¬ (s :: ss).isEmpty = true from Bool.false_ne_true)]
        unfold t__law_leads_r1
        walk_at "sx"
        refine g_ixL (k4 _ _ nin0 eL) (at_lit 0 rfl rfl) ⟨s.b, _, _, _, rfl, k14, (steps_in ok s hs).2, ?_⟩
        rw [ego, eg]
        rfl
  · rintro σ H1 ⟨x, y5, y6, y7, rfl, k1, hxn, ego⟩
    rw [List.length_map, List.drop_length] at ego
    unfold t__law_leads_r2
    walk_at "sx"
    refine g_eq rfl ?_
    have := q H1 k1
    rw [ego] at this
    have e : decide (goV T zs (plOf T x) (([] : List Int).map V.int) = some (plOf T g)) = decide (V.int (x : Nat) = V.int (g : Nat)) := by
      show decide (some (plOf T x) = some (plOf T g)) = _
      refine decide_eq_decide.mpr ⟨fun z => by rw [pl_inj' ok.nd hxn hg (Option.some.inj z)], fun z => by injection z with z; rw [show x = g by omega]⟩
    rw [e] at this
    exact this


/-! ### ways walked -/
theorem fw_go {T : Tn} {zs : List Int} {D : Tab} {g h : Nat} {ks : List Nat} (ok : TnOk T) (w : Fw (stepsTo T zs T.roads.length) D g h ks) : goV T zs (plOf T h) (ks.map fun k : Nat => V.int (k : Nat)) = some (plOf T g) := by
  induction w with
  | nil => rfl
  | @cons h s ks hne hf w ih =>
    obtain ⟨hs, ha, _⟩ := fst_some hf
    have so := stepsTo_ok ok hs
    have hz := (steps_60 ok s hs).2
    have e : goI T zs (plOf T h) (s.k : Nat) = some (plOf T s.b) := by
      unfold goI
      rw [if_pos ⟨by omega, by have := so.k; omega, hz⟩, Int.toNat_natCast, ← ha, so.go]
      rfl
    show (goI T zs (plOf T h) (s.k : Nat)).bind _ = _
    rw [e]
    exact ih
theorem fw_min {T : Tn} {zs : List Int} {D : Tab} {g h : Nat} {ks : List Nat} (ok : TnOk T) (c : Cht (stepsTo T zs T.roads.length) T.places.length D) (hg : g < T.places.length) (w : Fw (stepsTo T zs T.roads.length) D g h ks) : ∀ d, D g h = some d →
    ∃ (P : Nat → Str) (M : Nat → Int), P 0 = plOf T h ∧ M 0 = 0 ∧ M ks.length = d ∧ ∀ i k, ks[i]? = some k → led T k (P i) = some (P (i + 1), M (i + 1) - M i) := by
  induction w with
  | nil =>
    intro d e
    have := c.d0 g hg
    rw [this] at e
    cases e
    exact ⟨fun _ => plOf T g, fun _ => 0, rfl, rfl, rfl, fun i k e => by simp at e⟩
  | @cons h s ks hne hf w ih =>
    intro d e
    obtain ⟨hs, ha, v, ev, ed⟩ := fst_some hf
    rw [e] at ed
    cases ed
    obtain ⟨P, M, h1, h2, h3, h4⟩ := ih v ev
    have so := stepsTo_ok ok hs
    refine ⟨fun i => match i with | 0 => plOf T h | i + 1 => P i, fun i => match i with | 0 => 0 | i + 1 => s.m + M i, rfl, rfl, ?_, fun i k e => ?_⟩
    · show s.m + M ks.length = v + s.m
      omega
    · cases i with
      | zero =>
        cases e
        show led T s.k (plOf T h) = some (P 0, s.m + M 0 - 0)
        rw [h1, h2, ← ha, so.go]
        congr 2
        omega
      | succ i =>
        show led T k (P i) = some (P (i + 1), s.m + M (i + 1) - (s.m + M i))
        rw [h4 i k e]
        congr 2
        omega
theorem fw_self {sts : List Stp} {D : Tab} {g : Nat} {ks : List Nat} (w : Fw sts D g g ks) : ks = [] := by
  cases w with
  | nil => rfl
  | cons hne _ _ => exact absurd rfl hne
theorem find_congr' {α : Type} {f g : α → Bool} : ∀ {l : List α}, (∀ x ∈ l, f x = g x) → l.find? f = l.find? g
  | [], _ => rfl
  | a :: l, h => by
    rw [List.find?_cons, List.find?_cons, h a List.mem_cons_self, find_congr' (l := l) fun x hx => h x (List.mem_cons_of_mem _ hx)]
theorem fst_congr {sts : List Stp} {n : Nat} {D D' : Tab} (hb : ∀ s ∈ sts, s.a < n ∧ s.b < n) (e : ∀ g h, g < n → h < n → D g h = D' g h) {h g : Nat} (hg : g < n) : sts.find? (fstP D h g) = sts.find? (fstP D' h g) := find_congr' fun s hs => by
  unfold fstP leastB
  rw [e g s.a hg (hb s hs).1, e g s.b hg (hb s hs).2]
theorem fw_congr {sts : List Stp} {n : Nat} {D D' : Tab} (hb : ∀ s ∈ sts, s.a < n ∧ s.b < n) (e : ∀ g h, g < n → h < n → D g h = D' g h) {h g : Nat} {ks : List Nat} (w : Fw sts D g h ks) (hg : g < n) : Fw sts D' g h ks := by
  induction w with
  | nil => exact .nil
  | cons ne f _ ih => exact .cons ne (by rw [← fst_congr hb e hg]; exact f) ih
theorem fw_one {sts : List Stp} {D : Tab} {g h : Nat} {ks : List Nat} (w : Fw sts D g h ks) : ∀ {ks' : List Nat}, Fw sts D g h ks' → ks' = ks := by
  induction w with
  | nil =>
    intro ks' w'
    cases w' with
    | nil => rfl
    | cons ne _ _ => exact absurd rfl ne
  | cons ne f _ ih =>
    intro ks' w'
    cases w' with
    | nil => exact absurd rfl ne
    | cons ne' f' w2 =>
      rw [f] at f'
      cases f'
      rw [ih w2]
theorem cht_same {sts : List Stp} {n : Nat} {D D' : Tab} (hm : ∀ s ∈ sts, 1 ≤ s.m) (hb : ∀ s ∈ sts, s.a < n ∧ s.b < n) (c : Cht sts n D) (c' : Cht sts n D') : ∀ g h, g < n → h < n → D' g h = D g h := verd_only hm hb c c'.pos (verd_least hb c')
def spLWay : Sp := fun vs H Q _ => ∃ (t sh c : Addr) (h g : Nat) (T : Tn) (zs : List Int) (D : Tab), vs = [.ref t, .ref sh, .ref c, .int (h : Nat), .int (g : Nat)] ∧ TnAt H t T ∧ TnOk T ∧ Tup H sh (zs.map V.int) ∧ ChAt H c T.places.length D ∧ Cht (stepsTo T zs T.roads.length) T.places.length D ∧ h < T.places.length ∧ g < T.places.length ∧
  (D g h = none → Q .non H) ∧ ∀ H' p ks d, Keep [] H H' → D g h = some d → Tup H' p (ks.map fun k : Nat => V.int (k : Nat)) → Fw (stepsTo T zs T.roads.length) D g h ks → ks.length ≤ 600 → Q (.ref p) H'
theorem rd_lway (K : PySem.W.Frag) : ∀ vs H Q E, spLWay vs H Q E → run (t__law_way K spLFirst spSteps) (L2.start N__law_way vs) H Q := by
  rintro _ H Q _ ⟨t, sh, c, h, g, T, zs, D, rfl, hT, ok, hz, hC, hct, hh, hg, qn, qs⟩
  show run (t__law_way K spLFirst spSteps) [some (.ref t), some (.ref sh), some (.ref c), some (.int (h : Nat)), some (.int (g : Nat)), none, none, none] H Q
  have p10 := ok.p10
  have r18 := ok.r18
  have sl := stepsTo_len T zs T.roads.length
  have hpos := steps_pos (zs := zs) (n := T.roads.length) ok
  have h60 := steps_60 (zs := zs) (n := T.roads.length) ok
  have hso := steps_in (zs := zs) ok
  have edg : ∀ {a b : Nat}, decide (V.int (a : Nat) = V.int (b : Nat)) = decide (a = b) := fun {a b} => decide_eq_decide.mpr ⟨fun z => by injection z with z; omega, fun z => by rw [z]⟩
  unfold t__law_way
  walk_at "sx"
  refine ch_get hC hg hh ?_
  walk_at "sx"
  cases e0 : D g h with
  | none =>
    rw [if_pos (show mV none = V.non from rfl)]
    exact qn e0
  | some d0 =>
  rw [if_neg (show ¬ mV (some d0) = V.non from fun e => nomatch e)]
  unfold t__law_way_r2
  walk_at "sx"
  refine ⟨by walk_at "sz", fun l H2 nl k2 e2 => ?_⟩
  walk_at "sx"
  have b0 := cht_bound hct hpos (fun s hs => (h60 s hs).1) hso hg hh e0
  have hd0 := hct.pos _ _ _ e0
  refine ⟨fun m σ H' => ∃ (x : Nat) (ns : List Nat) (d : Int) (y6 y7 : Option V), σ = [some (.ref t), some (.ref sh), some (.ref c), some (.int ((x : Nat) : Int)), some (.int (g : Nat)), some (.ref l), y6, y7] ∧ Keep [l] H2 H' ∧ H' l = some (.lst (ns.map fun k : Nat => V.int (k : Nat))) ∧ x < T.places.length ∧
    (∀ ks, Fw (stepsTo T zs T.roads.length) D g x ks → Fw (stepsTo T zs T.roads.length) D g h (ns ++ ks)) ∧ D g x = some d ∧ m = d.toNat ∧ ns.length + m ≤ 600,
    ⟨d0.toNat, h, [], d0, _, _, rfl, Keep.refl _ _, e2, hh, fun _ h => h, e0, rfl, by simp only [List.length_nil]; omega⟩, ?_⟩
  rintro m σ H3 ⟨x, ns, d, y6, y7, rfl, k3, e3, hx, hfw, ed, rfl, hlen⟩
  have k03 : Keep [] H H3 := k2.past k3 nl
  have hT3 := hT.keep k03 noTup0
  walk_at "sx"
  refine g_ne rfl ⟨_, rfl, ?_⟩
  rw [edg]
  by_cases hxg : x = g
  · rw [hxg, decide_eq_true rfl, if_neg (by decide)]
    unfold t__law_way_r1
    walk_at "sx"
    rw [hxg] at hfw
    have hf := hfw [] .nil
    rw [List.append_nil] at hf
    exact g_tupleL e3 fun p H4 n4 k4 t4 => qs H4 p ns d0 (k03.trans k4) e0 t4 hf (by omega)
  · rw [decide_eq_false hxg, if_pos (by decide)]
    refine ⟨fun σ' H' => ∃ m', m' < d.toNat ∧ ∃ (x : Nat) (ns : List Nat) (d : Int) (y6 y7 : Option V), σ' = [some (.ref t), some (.ref sh), some (.ref c), some (.int ((x : Nat) : Int)), some (.int (g : Nat)), some (.ref l), y6, y7] ∧ Keep [l] H2 H' ∧ H' l = some (.lst (ns.map fun k : Nat => V.int (k : Nat))) ∧ x < T.places.length ∧
      (∀ ks, Fw (stepsTo T zs T.roads.length) D g x ks → Fw (stepsTo T zs T.roads.length) D g h (ns ++ ks)) ∧ D g x = some d ∧ m' = d.toNat ∧ ns.length + m' ≤ 600, fun σ' H' h => h, ?_⟩
    walk_at "sx"
    refine ⟨t, sh, c, x, g, T, zs, D, rfl, hT3, ok, hz.keep k03 nin0, hC.keep k03, hct, hx, hg, fun H4 k4 => ?_⟩
    walk_at "sx"
    cases hf : (stepsTo T zs T.roads.length).find? (fstP D x g) with
    | none =>
      have hn := fst_none hct hg hx hxg hf
      rw [hn] at ed
      cases ed
    | some s =>
      obtain ⟨hs, ha, v, ev, exd⟩ := fst_some hf
      have hv0 := hct.pos _ _ _ ev
      have m1 := hpos s hs
      have e4 := k4 _ _ nin0 e3
      rw [ed] at exd
      have exd := Option.some.inj exd
      have k04 := k03.trans k4
      refine ⟨t, sh, T, zs, rfl, hT.keep k04 noTup0, ok, hz.keep k04 nin0, fun dl H5 us n5 k5 e5 w5 => ?_⟩
      refine sel_steps (h := x) (i := (s.k : Nat)) e5 w5 (by omega) (fun p s' H6 R R0 tp r1 r0 => ?_) fun L H6 nL k6 eL => ?_
      · walk_at "sx"
        refine g_slT tp fun l' H7 k7 f7 => ?_
        rw [cut_st] at f7
        refine ⟨by walk_at "sz", fun l2 H8 n8 k8 f8 => eq_pair (f7.keep k8 nin0) f8 ⟨_, rfl, ?_⟩⟩
        have k78 := k7.trans k8
        cases e : hereP x (s.k : Nat) s' with
        | true =>
          rw [if_pos (show decide ((s'.k : Int) = (s.k : Nat) ∧ (s'.a : Int) = (x : Nat)) = true from e)]
          exact g_ixT (tp.keep k78 nin0) (at_lit 2 rfl rfl) (r1 H8 k78 e)
        | false =>
          rw [if_neg (by rw [show decide ((s'.k : Int) = (s.k : Nat) ∧ (s'.a : Int) = (x : Nat)) = false from e]; decide)]
          exact r0 H8 k78 e
      · have gs := goI_step ok hs
        rw [ha] at gs
        rcases sel_cases (zs := zs) ok (i := (s.k : Nat)) hx with ⟨_, eg⟩ | ⟨s', ss, ef, hs', _, _, eg⟩
        · rw [gs] at eg
          cases eg
        · rw [gs] at eg
          have eb : s.b = s'.b := pl_inj' ok.nd (hso s hs).2 (hso s' hs').2 (Option.some.inj eg)
          rw [ef] at eL
          have e6 := (k5.trans k6) _ _ nin0 e4
          refine g_ixL eL (at_lit 0 rfl rfl) ?_
          walk_at "sx"
          refine ⟨.inl ⟨rfl, _, .inl (.inl e6)⟩, g_append e6 (by rw [List.length_map]; exact len_lt (by omega)) fun H7 k7 e7 => ?_⟩
          refine ⟨v.toNat, by omega, s'.b, ns ++ [s.k], v, _, _, rfl, k3.trans ((k4.trans (k5.trans k6)).all.trans k7), ?_, (hso s' hs').2, fun ks hk => ?_, ?_, rfl, by rw [List.length_append, List.length_singleton]; omega⟩
          · rw [List.map_append]; exact e7
          · rw [List.append_assoc]
            rw [← eb] at hk
            exact hfw _ (.cons hxg hf hk)
          · rw [← eb]; exact ev


/-! ### asked of the program and of the law -/
def Alike (K : PySem.W.Frag) (H : Hp) (f d : V) : Prop := (f = d ∧ scal f d = true ∧ ∃ b, ∀ (H' : Hp) (Q : VK), Q (.bl b) H' → rIsi K [f, .ty "bool"] H' Q) ∨ ∃ p q, f = .ref p ∧ d = .ref q ∧ ((∃ n D, ChAt H p n D ∧ ChAt H q n D) ∨ (∃ is : List Int, Tup H p (is.map V.int) ∧ Tup H q (is.map V.int)) ∨ ∃ (w : Str) (k : Nat), (w = "goal" ∨ w = "steep" ∨ w = "slack" ∨ w = "shape") ∧ Tup H p [.str w, .int (k : Nat)] ∧ Tup H q [.str w, .int (k : Nat)])
theorem alike_non {K : PySem.W.Frag} {H : Hp} : Alike K H .non .non := .inl ⟨rfl, rfl, false, fun _ _ q => g_isi (.base .non) kit_none_bool q⟩
theorem alike_int {K : PySem.W.Frag} {H : Hp} (i : Int) : Alike K H (.int i) (.int i) := .inl ⟨rfl, rfl, false, fun _ _ q => g_isi (.base (.int i)) kit_int_bool q⟩
theorem alike_bl {K : PySem.W.Frag} {H : Hp} (i : Bool) : Alike K H (.bl i) (.bl i) := .inl ⟨rfl, rfl, true, fun _ _ q => g_isi (.base (.bl i)) kit_bool_bool q⟩
theorem alike_fst {K : PySem.W.Frag} {H : Hp} (o : Option Stp) : Alike K H (fstV o) (fstV o) := by
  cases o with
  | none => exact alike_non
  | some s => exact alike_int _
theorem Alike.kt {K : PySem.W.Frag} {L : List Addr} {H H' : Hp} {f d : V} (h : Alike K H f d) (ht : Tabs L H) (k : KT L H H') : Alike K H' f d := by
  rcases h with h | ⟨p, q, e1, e2, h | h | h⟩
  · exact .inl h
  · obtain ⟨n, D, a, b⟩ := h
    exact .inr ⟨p, q, e1, e2, .inl ⟨n, D, a.kt ht k, b.kt ht k⟩⟩
  · obtain ⟨is, a, b⟩ := h
    exact .inr ⟨p, q, e1, e2, .inr (.inl ⟨is, a.kt ht k, b.kt ht k⟩)⟩
  · obtain ⟨w, n, hw, a, b⟩ := h
    exact .inr ⟨p, q, e1, e2, .inr (.inr ⟨w, n, hw, a.kt ht k, b.kt ht k⟩)⟩
theorem eqv_ints (xs ys : List Int) : PyData.eqvAll (xs.map .int) (ys.map .int) = decide (xs = ys) := by
  induction xs generalizing ys with
  | nil => cases ys <;> simp [PyData.eqvAll]
  | cons x xs ih =>
    cases ys with
    | nil => simp [PyData.eqvAll]
    | cons y ys =>
      rw [List.map_cons, List.map_cons, PyData.eqvAll, ih]
      simp only [PyData.eqv]
      rw [Bool.eq_iff_iff]
      simp
theorem dp_ints' {K : PySem.W.Frag} {H : Hp} : ∀ xs : List Int, DpAll K H (xs.map V.int) (xs.map .int)
  | [] => .nil
  | x :: xs => .cons (.int x) (dp_ints' xs)
theorem shaped_ints (xs : List Int) : SeqAt.shaped (.tuple (xs.map .int)) = true := by
  obtain ⟨a, b⟩ := lay_intsX (fun i : Int => i) xs
  unfold SeqAt.shaped
  rw [Bool.and_eq_true_iff]
  exact ⟨by simp only [PyData.canLay0]; exact a, decide_eq_true (by simp only [PyData.depth]; rw [b]; decide)⟩
theorem g_eqInts {K : PySem.W.Frag} {H : Hp} {a b : Addr} {xs ys : List Int} {ne : Bool} {Q : VK} (ha : Tup H a (xs.map V.int)) (hb : Tup H b (ys.map V.int)) (q : Q (.bl (if ne then !decide (xs = ys) else decide (xs = ys))) H) : uEq K ne (.ref a) (.ref b) H Q := by
  refine .inr ⟨_, _, .tup ha.sq (dp_ints' xs), .tup hb.sq (dp_ints' ys), shaped_ints xs, shaped_ints ys, ?_⟩
  rw [PyData.eqv, eqv_ints]
  exact q
theorem g_eqNon {K : PySem.W.Frag} {H : Hp} {a : Addr} {xs : List Int} {Q : VK} (ha : Tup H a (xs.map V.int)) (q : Q (.bl false) H) : uEq K false (.ref a) .non H Q := by
  refine .inr ⟨_, _, .tup ha.sq (dp_ints' xs), .non, shaped_ints xs, by decide +kernel, ?_⟩
  rw [if_neg (by decide)]
  simp only [PyData.eqv]
  exact q
theorem g_alike {K : PySem.W.Frag} {H : Hp} {f d : V} {ne : Bool} {Q : VK} (h : Alike K H f d) (q : Q (.bl (!ne)) H) : uEq K ne f d H Q := by
  rcases h with ⟨rfl, hs, _⟩ | ⟨p, r, rfl, rfl, ⟨n, D, a, b⟩ | ⟨is, a, b⟩ | ⟨w, k, hw, a, b⟩⟩
  · refine .inl ⟨hs, ?_⟩
    rw [decide_eq_true rfl]
    cases ne <;> exact q
  · refine g_eqCh a b ?_
    rw [show sameB n D D = true from sameB_iff.mpr fun _ _ _ _ => rfl]
    cases ne <;> exact q
  · refine g_eqInts a b ?_
    rw [decide_eq_true rfl]
    cases ne <;> exact q
  · cases ne with
    | true => exact g_neW hw a b q
    | false =>
      have lay : PyData.canLay0 (.tuple [.str w, .int (k : Nat)]) = true := by simp [PyData.canLay0, PyData.canLayAll0, strOk_w hw]
      have sh : SeqAt.shaped (.tuple [.str w, .int (k : Nat)]) = true := by
        unfold SeqAt.shaped
        rw [Bool.and_eq_true_iff]
        exact ⟨lay, decide_eq_true (by simp [PyData.depth, PyData.depthAll])⟩
      refine .inr ⟨_, _, .tup a.sq (.cons (.str _) (.cons (.int _) .nil)), .tup b.sq (.cons (.str _) (.cons (.int _) .nil)), sh, sh, ?_⟩
      rw [if_neg (by decide), show PyData.eqv (.tuple [.str w, .int (k : Nat)]) (.tuple [.str w, .int (k : Nat)]) = true by simp [PyData.eqv, PyData.eqvAll]]
      exact q
theorem g_alikeIs {K : PySem.W.Frag} {H : Hp} {f d : V} {Q : VK} (h : Alike K H f d) (q : Q (.bl false) H) : rIsi K [f, .ty "bool"] H fun x H1 => rIsi K [d, .ty "bool"] H1 fun y H2 => uEq K true x y H2 Q := by
  rcases h with ⟨rfl, hs, b, hb⟩ | ⟨p, r, rfl, rfl, h⟩
  · exact hb _ _ (hb _ _ (g_ne rfl (by rw [decide_eq_true rfl]; exact q)))
  · have tp : (∃ xs, Tup H p xs) ∧ ∃ xs, Tup H r xs := by
      rcases h with ⟨n, D, ⟨vs, a, _⟩, ⟨us, b, _⟩⟩ | ⟨is, a, b⟩ | ⟨w, k, hw, a, b⟩
      · exact ⟨⟨_, a⟩, _, b⟩
      · exact ⟨⟨_, a⟩, _, b⟩
      · exact ⟨⟨_, a⟩, _, b⟩
    obtain ⟨⟨xs, a⟩, ys, b⟩ := tp
    exact g_isi (ty_tup a) kit_tuple_bool (g_isi (ty_tup b) kit_tuple_bool (g_ne rfl (by rw [decide_eq_true rfl]; exact q)))


def pairR (K : PySem.W.Frag) (s__law_chart : Sp) (s_chart_of : Sp) (s__law_first : Sp) (s_first_road : Sp) (s__law_way : Sp) (s_way : Sp) (s__law_leads : Sp) (s_is_way : Sp) (s_minutes_of : Sp) (s__law_verdict : Sp) (s__law_told : Sp) : TS :=
  tSeq (tIfS (tTest (tOp (uEq K false) (tVar 4) (tC (.int 2)))) (tRet (tTupU (tCons (tGo s_way E0 (tCons (tVar 0) (tCons (tVar 1) (tCons (tVar 7) (tCons (tVar 8) (tNil)))))) (tCons (tVar 9) (tNil))))) (tNext)) (t__law_pair_r3 K s__law_chart s_chart_of s__law_first s_first_road s__law_way s_way s__law_leads s_is_way s_minutes_of s__law_verdict s__law_told)
theorem pairR_eq (K : PySem.W.Frag) (s__law_chart : Sp) (s_chart_of : Sp) (s__law_first : Sp) (s_first_road : Sp) (s__law_way : Sp) (s_way : Sp) (s__law_leads : Sp) (s_is_way : Sp) (s_minutes_of : Sp) (s__law_verdict : Sp) (s__law_told : Sp) : t__law_pair_r4 K s__law_chart s_chart_of s__law_first s_first_road s__law_way s_way s__law_leads s_is_way s_minutes_of s__law_verdict s__law_told = tSeq (tAsg (tGo s__law_way E0 (tCons (tVar 0) (tCons (tVar 1) (tCons (tVar 6) (tCons (tVar 2) (tCons (tVar 3) (tNil))))))) (gName 9)) (pairR K s__law_chart s_chart_of s__law_first s_first_road s__law_way s_way s__law_leads s_is_way s_minutes_of s__law_verdict s__law_told) := rfl
def DueAt (T : Tn) (zs : List Int) (D : Tab) (h g : Nat) (due : V) (H : Hp) : Prop := (due = .non ∧ D g h = none) ∨ ∃ (p : Addr) (ks : List Nat) (d : Int), due = .ref p ∧ D g h = some d ∧ Tup H p (ks.map fun k : Nat => V.int (k : Nat)) ∧ Fw (stepsTo T zs T.roads.length) D g h ks ∧ ks.length ≤ 600
def spPair (K : PySem.W.Frag) (L : List Addr) : Sp := fun vs H Q _ => ∃ (t sh : Addr) (h g : Nat) (T : Tn) (zs : List Int) (ask : Int) (th : V), vs = [.ref t, .ref sh, .int (h : Nat), .int (g : Nat), .int ask, th] ∧ TnAt H t T ∧ TnOk T ∧ Tup H sh (zs.map V.int) ∧ h < T.places.length ∧ g < T.places.length ∧ Tabs L H ∧ 0 ≤ ask ∧ ask < 6 ∧
  (ask = 3 → ∃ (r : Addr) (ks : List Int), th = .ref r ∧ Tup H r (ks.map V.int)) ∧ (ask = 5 → ∃ c D, th = .ref c ∧ ChAt H c T.places.length D ∧ ∀ g h d, D g h = some d → 0 ≤ d) ∧
  ∀ p f d H', KT L H H' → Tup H' p [f, d] → Alike K H' f d → Q (.ref p) H'
theorem rd_pair (K : PySem.W.Frag) {L : List Addr} : ∀ vs H Q E, spPair K L vs H Q E → run (t__law_pair K spChart spChartOf spLFirst spFirst spLWay spWay spLLeads (spIsWay K) spMin spVerd (spTold K L)) (L2.start N__law_pair vs) H Q := by
  rintro _ H Q _ ⟨t, sh, h, g, T, zs, ask, th, rfl, hT, ok, hz, hh, hg, ht, a0, a6, a3, a5, q⟩
  show run (t__law_pair K spChart spChartOf spLFirst spFirst spLWay spWay spLLeads (spIsWay K) spMin spVerd (spTold K L)) [some (.ref t), some (.ref sh), some (.int (h : Nat)), some (.int (g : Nat)), some (.int ask), some th, none, none, none, none] H Q
  have hb := steps_in (zs := zs) ok
  have hm := steps_pos (zs := zs) (n := T.roads.length) ok
  unfold t__law_pair
  walk_at "sx"
  refine ⟨t, sh, T, zs, rfl, hT, ok, hz, fun c H1 D k1 hc ch => ?_⟩
  have hT1 := hT.keep k1 noTup0
  have hz1 := hz.keep k1 nin0
  have ht1 := ht.keep0 k1
  have hT1' := hT1
  obtain ⟨ap, ar, as, rv, g1, g2, g3, g4, g5⟩ := hT1'
  walk_at "sx"
  refine g_ixT g1 (at_lit 0 rfl rfl) (g_ixT g2 (at_lit h rfl (pl_at hh)) (g_ixT g1 (at_lit 0 rfl rfl) (g_ixT g2 (at_lit g rfl (pl_at hg)) (g_eq rfl ⟨_, rfl, ?_⟩))))
  have fin : ∀ {H2 H3 : Hp} {p : Addr} {f d : V}, Keep [] H1 H2 → Keep [] H2 H3 → Tup H3 p [f, d] → Alike K H2 f d → Q (.ref p) H3 := fun {H2 H3 p f d} k2 k3 tp al => q p f d H3 (KT.of0 (k1.trans (k2.trans k3))) tp (al.kt (ht1.keep0 k2) (KT.of0 k3))
  split
  · refine ⟨t, sh, T, zs, rfl, hT1, ok, hz1, fun c2 H2 D2 k2 hc2 ch2 => ⟨by walk_at "sz", fun p H3 n3 k3 e3 => ?_⟩⟩
    exact fin k2 k3 e3 (.inr ⟨_, _, rfl, rfl, .inl ⟨_, D, hc2.congr (cht_same hm hb ch ch2), hc.keep k2⟩⟩)
  unfold t__law_pair_r5
  walk_at "sx"
  refine g_eq rfl ⟨_, rfl, ?_⟩
  split
  · refine ⟨t, sh, c, h, g, T, zs, D, rfl, hT1, ok, hz1, hc, hh, hg, fun H2 k2 => ?_⟩
    refine ⟨t, sh, c, h, g, T, zs, D, rfl, hT1.keep k2 noTup0, ok, hz1.keep k2 nin0, hc.keep k2, ch, hh, hg, fun H3 k3 => ⟨by walk_at "sz", fun p H4 n4 k4 e4 => ?_⟩⟩
    exact fin (k2.trans k3) k4 e4 (alike_fst _)
  rw [pairR_eq]
  walk_at "sx"
  refine (fun key => ⟨t, sh, c, h, g, T, zs, D, rfl, hT1, ok, hz1, hc, ch, hh, hg, fun en => key .non H1 (Keep.refl _ _) (.inl ⟨rfl, en⟩), fun H2 p ks d k2 ed tp fw l6 => key (.ref p) H2 k2 (.inr ⟨p, ks, d, rfl, ed, tp, fw, l6⟩)⟩ : (∀ due H2, Keep [] H1 H2 → DueAt T zs D h g due H2 → pairR K spChart spChartOf spLFirst spFirst spLWay spWay spLLeads (spIsWay K) spMin spVerd (spTold K L) { nx := fun x H' => Q V.non H', rt := Q } [some (.ref t), some (.ref sh), some (.int (h : Nat)), some (.int (g : Nat)), some (.int ask), some th, some (.ref c), some (.str (plOf T h)), some (.str (plOf T g)), some due] H2) → _) ?_
  intro due H2 k2 hd
  have hT2 := hT1.keep k2 noTup0
  have hz2 := hz1.keep k2 nin0
  have ht2 := ht1.keep0 k2
  unfold pairR
  walk_at "sx"
  refine g_eq rfl ⟨_, rfl, ?_⟩
  split
  · refine ⟨t, sh, h, g, T, zs, rfl, hT2, ok, hz2, hh, hg, fun H3 D2 k3 ch2 => ⟨fun en => ⟨by walk_at "sz", fun p H4 n4 k4 e4 => ?_⟩, fun p ks d ed tp fw => ⟨by walk_at "sz", fun p2 H4 n4 k4 e4 => ?_⟩⟩⟩
    · have e := cht_same hm hb ch ch2 g h hg hh
      rw [en] at e
      rcases hd with ⟨rfl, _⟩ | ⟨p', ks', d', _, ed', _⟩
      · exact fin (k2.trans k3) k4 e4 alike_non
      · rw [ed'] at e; cases e
    · have e := cht_same hm hb ch ch2 g h hg hh
      rw [ed] at e
      rcases hd with ⟨_, en⟩ | ⟨p', ks', d', rfl, ed', tp', fw', _⟩
      · rw [en] at e; cases e
      · have := fw_one (fw_congr hb (cht_same hm hb ch ch2) fw hg) fw'
        subst this
        refine fin (k2.trans k3) k4 e4 (.inr ⟨_, _, rfl, rfl, .inr (.inl ⟨ks'.map fun k : Nat => (k : Int), ?_, ?_⟩)⟩)
        · rw [List.map_map]; exact tp
        · rw [List.map_map]; exact tp'.keep k3 nin0
  unfold t__law_pair_r3
  walk_at "sx"
  refine g_eq rfl ⟨_, rfl, ?_⟩
  split
  · rename_i h3
    have h3 : ask = 3 := by simpa using h3
    obtain ⟨r, js, rfl, tr⟩ := a3 h3
    have tr2 := (tr.keep k1 nin0).keep k2 nin0
    refine ⟨t, sh, _, _, _, T, zs, rfl, hT2, hz2, .inr ⟨r, _, rfl, tr2, fun e he => ?_, fun H3 k3 => ?_⟩⟩
    · obtain ⟨i, _, rfl⟩ := List.mem_map.mp he
      exact .int i
    have tr3 := tr2.keep k3 nin0
    have leads : ∀ {x : V}, x = .bl (decide (goV T zs (plOf T h) (js.map V.int) = some (plOf T g))) → spLLeads [.ref t, .ref sh, .int (h : Nat), .int (g : Nat), .ref r] H3 (fun x_2 H1 => [x, x_2].length ≤ sizeLine ∧ Mt H1 [x, x_2] Q) E0 := fun {x} ex =>
      ⟨t, sh, r, h, g, T, zs, js, rfl, hT2.keep k3 noTup0, ok, hz2.keep k3 nin0, tr3, hh, hg, fun H4 k4 => ⟨by walk_at "sz", fun p H5 n5 k5 e5 => fin (k2.trans (k3.trans k4)) k5 e5 (by rw [ex]; exact alike_bl _)⟩⟩
    rcases hd with ⟨rfl, _⟩ | ⟨p', ks', d', rfl, ed', tp', fw', _⟩
    · refine g_eqNon tr3 ⟨false, rfl, ?_⟩
      rw [if_neg (by decide)]
      exact leads rfl
    · have tp3 : Tup H3 p' ((ks'.map fun k : Nat => (k : Int)).map V.int) := by rw [List.map_map]; exact tp'.keep k3 nin0
      refine g_eqInts (ne := false) tr3 tp3 ⟨_, rfl, ?_⟩
      rw [if_neg (show ¬ (false = true) from Bool.false_ne_true)]
      by_cases he : js = ks'.map fun k : Nat => (k : Int)
      · rw [if_pos (decide_eq_true he)]
        refine ⟨by walk_at "sz", fun p H4 n4 k4 e4 => fin (k2.trans k3) k4 e4 ?_⟩
        have go := fw_go ok fw'
        rw [show (ks'.map fun k : Nat => V.int (k : Nat)) = js.map V.int by rw [he, List.map_map]; rfl] at go
        rw [decide_eq_true go, decide_eq_true he]
        exact alike_bl true
      · rw [if_neg (by rw [decide_eq_false he]; decide)]
        exact leads rfl
  unfold t__law_pair_r2
  walk_at "sx"
  refine g_eq rfl ⟨_, rfl, ?_⟩
  split
  · have hc2 := hc.keep k2
    rcases hd with ⟨rfl, en⟩ | ⟨p', ks', d', rfl, ed', tp', fw', _⟩
    · refine ⟨false, rfl, ?_⟩
      rw [if_neg (by decide)]
      refine ⟨by walk_at "sz", fun e0 H3 n3 k3 f3 => ⟨t, e0, plOf T h, T, [], fun _ => plOf T h, fun _ => 0, rfl, hT2.keep k3 noTup0, f3, rfl, fun i k e => by simp at e, fun H4 k4 => ?_⟩⟩
      refine ch_get ((hc2.keep k3).keep k4) hg hh ⟨by walk_at "sz", fun l H5 n5 k5 f5 => ?_⟩
      rw [if_pos rfl]
      refine g_ixL f5 (at_lit 1 rfl rfl) ⟨by walk_at "sz", fun p H6 n6 k6 e6 => fin (k2.trans (k3.trans (k4.trans k5))) k6 e6 ?_⟩
      exact alike_int 0
    · obtain ⟨P, M, m1, m2, m3, m4⟩ := fw_min ok ch hg fw' d' ed'
      have rest : ∀ {H3 : Hp} {e0 : Addr}, Keep [] H2 H3 → Tup H3 e0 (ks'.map fun k : Nat => V.int (k : Nat)) → spMin [.ref t, .str (plOf T h), .ref e0] H3 (fun x H1 => uIx K (.ref c) (.int (g : Nat)) H1 fun x_1 H1 => uIx K x_1 (.int (h : Nat)) H1 fun x_2 H1 => [x_2, V.int 0].length ≤ sizeLine ∧ Mk H1 (.lst [x_2, .int 0]) fun x_3 H1 => uIx K x_3 (.int (if V.ref p' = V.non then 1 else 0)) H1 fun x_4 H1 => [x, x_4].length ≤ sizeLine ∧ Mt H1 [x, x_4] Q) E0 := fun {H3 e0} k3 f3 => by
        refine ⟨t, e0, plOf T h, T, ks', P, M, rfl, hT2.keep k3 noTup0, f3, m1, m4, fun H4 k4 => ?_⟩
        refine ch_get ((hc2.keep k3).keep k4) hg hh ⟨by walk_at "sz", fun l H5 n5 k5 f5 => ?_⟩
        rw [if_neg (fun e => nomatch e)]
        refine g_ixL f5 (at_lit 0 rfl rfl) ⟨by walk_at "sz", fun p H6 n6 k6 e6 => fin (k2.trans (k3.trans (k4.trans k5))) k6 e6 ?_⟩
        rw [ed', m2, m3, show d' - 0 = d' by omega]
        exact alike_int d'
      refine ⟨_, .inr (.inl ⟨_, tp'.sq, rfl⟩), ?_⟩
      split
      · exact rest (Keep.refl _ _) tp'
      · rename_i hne
        have : ks' = [] := by
          cases ks' with
          | nil => rfl
          | cons a as => exact absurd rfl hne
        subst this
        exact ⟨by walk_at "sz", fun e0 H3 n3 k3 f3 => rest k3 f3⟩
  unfold t__law_pair_r1
  walk_at "sx"
  rename_i h0 h1 h2 h3 h4
  have h5 : ask = 5 := by
    simp at h0 h1 h2 h3 h4
    omega
  obtain ⟨c', D', rfl, hc', pos'⟩ := a5 h5
  have hc'2 := (hc'.keep k1).keep k2
  have kk : ∀ {H' : Hp}, KT L H2 H' → KT L H H' := fun k => (KT.of0 (k1.trans k2)).trans k
  cases v : verd (stepsTo T zs T.roads.length) T.places.length D' with
  | none =>
    refine .inl ⟨t, sh, c', T, zs, D', rfl, hT2, ok, hz2, hc'2, pos', ht2, fun _ H3 k3 => ?_, fun w k e => by rw [v] at e; cases e⟩
    refine ⟨t, sh, c', T, zs, D', rfl, hT2.kt ht2 k3, ok, hz2.kt ht2 k3, hc'2.kt ht2 k3, fun _ H4 k4 => ⟨by walk_at "sz", fun p H5 n5 k5 e5 => ?_⟩, fun w k e => by rw [v] at e; cases e⟩
    exact q p _ _ H5 (kk (k3.trans (KT.of0 (k4.trans k5)))) e5 (alike_bl true)
  | some wk =>
    obtain ⟨w, k⟩ := wk
    refine .inl ⟨t, sh, c', T, zs, D', rfl, hT2, ok, hz2, hc'2, pos', ht2, fun e => (by rw [v] at e; cases e), fun w' k' e H3 p3 k3 tp3 => ?_⟩
    rw [v] at e
    cases e
    refine ⟨t, sh, c', T, zs, D', rfl, hT2.kt ht2 k3, ok, hz2.kt ht2 k3, hc'2.kt ht2 k3, fun e => (by rw [v] at e; cases e), fun w' k' e H4 p4 k4 tp4 => ⟨by walk_at "sz", fun p H5 n5 k5 e5 => ?_⟩⟩
    rw [v] at e
    cases e
    exact q p _ _ H5 (kk (k3.trans (KT.of0 (k4.trans k5)))) e5 (.inr ⟨_, _, rfl, rfl, .inr (.inr ⟨w, k, verd_word v, (tp3.keep k4 nin0).keep k5 nin0, tp4.keep k5 nin0⟩)⟩)


theorem xat {xs : List Int} (hx : ∀ x ∈ xs, 0 ≤ x) {k : Nat} (hk : k < xs.length) : ∃ x : Int, 0 ≤ x ∧ (xs.map V.int)[k]? = some (V.int x) := ⟨xs[k], hx _ (List.getElem_mem hk), by rw [List.getElem?_map, List.getElem?_eq_getElem hk]; rfl⟩
theorem mod_nat {x : Int} {n : Nat} (hn : 0 < n) : ∃ g : Nat, g < n ∧ x % (n : Int) = (g : Nat) := by
  have h1 : 0 ≤ x % (n : Int) := Int.emod_nonneg x (by omega)
  have h2 : x % (n : Int) < n := Int.emod_lt_of_pos x (by omega)
  exact ⟨(x % (n : Int)).toNat, by omega, by omega⟩
/-! ### towns of the pen -/
theorem names_ne {ys : List Str} (nd : ys.Nodup) {a b : Nat} (ha : a < ys.length) (hb : b < ys.length) (h : a ≠ b) : ys[a] ≠ ys[b] := fun e => h ((List.getElem_inj nd).mp e)
theorem name_ok {y : Str} (h : NameOk (cl y)) : PyData.strOk y = true := by
  unfold PyData.strOk
  rw [← Array.all_toList, List.all_eq_true]
  intro ch hc
  have := h.2.2.1 ch hc
  unfold isSg isLt at this
  exact decide_eq_true (by omega)
/-! ### a twin of a town -/
def spTwin : Sp := fun vs H Q _ => ∃ (t r : Addr) (T : Tn) (xs : List Int), vs = [.ref t, .ref r] ∧ TnAt H t T ∧ TnOk T ∧ H r = some (.lst (xs.map V.int)) ∧ 2 ≤ xs.length ∧ ∀ p H' T', Keep [] H H' → TnAt H' p T' → TnOk T' → T'.places = T.places → T'.roads.length = T.roads.length → Q (.ref p) H'
theorem rds_at {H : Hp} : ∀ {vs : List V} {rs : List Rd}, RdsAt H vs rs → ∀ {i : Nat} {r : Rd}, rs[i]? = some r → ∃ p, vs[i]? = some (.ref p) ∧ RdAt H p r
  | _, _, .nil, i, r, e => by simp at e
  | _, _, .cons h q, 0, r, e => by
    simp at e
    subst e
    exact ⟨_, rfl, h⟩
  | _, _, .cons h q, i + 1, r, e => by
    obtain ⟨p, h1, h2⟩ := rds_at q (i := i) (r := r) (by simpa using e)
    exact ⟨p, by simpa using h1, h2⟩
theorem rds_set {H : Hp} {p : Addr} {r : Rd} (hr : RdAt H p r) : ∀ {vs : List V} {rs : List Rd}, RdsAt H vs rs → ∀ (i : Nat), RdsAt H (vs.set i (.ref p)) (rs.set i r)
  | _, _, .nil, _ => .nil
  | _, _, .cons h q, 0 => .cons hr q
  | _, _, .cons h q, i + 1 => .cons h (rds_set hr q i)
theorem lay_rd {ys : List Str} (nm : ∀ y ∈ ys, NameOk (cl y)) {r : Rd} (ok : RdOk ys r) : PyData.canLay0 (rdD r) = true ∧ PyData.depth (rdD r) ≤ 1 := by
  have a := name_ok (nm _ ok.one)
  have b := name_ok (nm _ ok.two)
  obtain ⟨c1, d1⟩ := lay_mD r.there
  obtain ⟨c2, d2⟩ := lay_mD r.back
  unfold rdD
  simp only [PyData.canLay0, PyData.canLayAll0, PyData.depth, PyData.depthAll, a, b, c1, c2, Bool.and_self, true_and]
  omega
theorem g_neRds {K : PySem.W.Frag} {H : Hp} {a b : Addr} {vs : List V} {T : Tn} {Q : VK} (ok : TnOk T) (h : H a = some (.lst vs)) (w : RdsAt H vs T.roads) (e : H b = some (.lst [])) (q : Q (.bl (!T.roads.isEmpty)) H) : uEq K true (.ref a) (.ref b) H Q := by
  obtain ⟨h1, h2⟩ := lay_all rdD 1 T.roads fun r hr => lay_rd ok.nm (ok.rd r hr)
  refine .inr ⟨_, _, .lst (lst_sq h) (dp_rds w), .lst (lst_sq e) .nil, ?_, by decide +kernel, ?_⟩
  · unfold SeqAt.shaped
    rw [Bool.and_eq_true_iff]
    exact ⟨by simp only [PyData.canLay0]; exact h1, decide_eq_true (by simp only [PyData.depth]; omega)⟩
  · rw [if_pos rfl]
    have : PyData.eqv (.list (T.roads.map rdD)) (.list []) = T.roads.isEmpty := by
      cases T.roads with
      | nil => simp [PyData.eqv, PyData.eqvAll]
      | cons r rs => simp [PyData.eqv, PyData.eqvAll]
    rw [this]
    exact q
theorem rd_twin (K : PySem.W.Frag) : ∀ vs H Q E, spTwin vs H Q E → run (t__law_twin K) (L2.start N__law_twin vs) H Q := by
  rintro _ H Q _ ⟨t, r, T, xs, rfl, hT, ok, hr, hl, q⟩
  obtain ⟨x0, xs, rfl⟩ : ∃ a as, xs = a :: as := by cases xs with | nil => simp at hl | cons a as => exact ⟨a, as, rfl⟩
  obtain ⟨x1, xs, rfl⟩ : ∃ a as, xs = a :: as := by cases xs with | nil => simp at hl | cons a as => exact ⟨a, as, rfl⟩
  have at0 : atI ((x0 :: x1 :: xs).map V.int) 0 = some (V.int x0) := at_lit 0 rfl rfl
  have at1 : atI ((x0 :: x1 :: xs).map V.int) 1 = some (V.int x1) := at_lit 1 rfl rfl
  show run (t__law_twin K) [some (.ref t), some (.ref r), none, none, none, none, none, none, none] H Q
  obtain ⟨ap, ar, as, rv, g1, g2, g3, g4, g5⟩ := hT
  have fin : ∀ (l : Addr) (H2 : Hp) (us : List V) (rs : List Rd) (y3 y4 y5 y6 y7 y8 : Option V), Keep [] H H2 → H2 l = some (.lst us) → RdsAt H2 us rs → rs.length = T.roads.length → (∀ r ∈ rs, RdOk T.places r) →
      t__law_twin_r2 K { nx := fun x H' => Q V.non H', rt := Q } [some (.ref t), some (.ref r), some (.ref l), y3, y4, y5, y6, y7, y8] H2 := fun l H2 us rs y3 y4 y5 y6 y7 y8 k2 e2 w2 lr okr => by
    unfold t__law_twin_r2
    walk_at "sx"
    refine g_ixT (g1.keep k2 nin0) (at_lit 0 rfl rfl) (g_tupleL e2 fun t2 H3 n3 k3 f3 => ?_)
    have g13 := (g1.keep k2 nin0).keep k3 nin0
    refine g_ixT g13 (at_lit 2 rfl rfl) (g_ixT g13 (at_lit 3 rfl rfl) ⟨by walk_at "sz", fun p H4 n4 k4 f4 => ?_⟩)
    have k24 := k3.trans k4
    have k04 := k2.trans k24
    exact q p H4 { T with roads := rs } k04 ⟨ap, t2, as, us, f4, g2.keep k04 nin0, f3.keep k4 nin0, w2.keep k24 noTup0, g5.keep k04 nin0⟩ ⟨ok.p1, ok.p10, ok.nd, ok.nm, by show rs.length ≤ 18; rw [lr]; exact ok.r18, okr, ok.s1, ok.s5, ok.sn, ok.sp, ok.re0, ok.re1⟩ rfl lr
  unfold t__law_twin
  walk_at "sx"
  refine g_ixT g1 (at_lit 1 rfl rfl) (g_listT g3 fun l H1 n1 k1 e1 => ?_)
  have w1 := g4.keep k1 noTup0
  refine ⟨by walk_at "sz", fun e0 H2 n2 k2 f2 => g_neRds ok (k2 _ _ nin0 e1) (w1.keep k2 noTup0) f2 ⟨_, rfl, ?_⟩⟩
  have k12 := k1.trans k2
  have e2 := k2 _ _ nin0 e1
  have w2 := w1.keep k2 noTup0
  cases hrd : T.roads with
  | nil =>
    rw [if_neg (by decide)]
    exact fin l H2 rv T.roads _ _ _ _ _ _ k12 e2 w2 rfl ok.rd
  | cons r0 rs0 =>
  rw [if_pos (show (!(r0 :: rs0).isEmpty) = true from rfl)]
  refine g_ixL (k12 _ _ nin0 hr) at0 (g_lenL e2 ?_)
  rw [g4.len]
  walk_at "sx"
  have lp : 0 < T.roads.length := by rw [hrd]; exact Nat.succ_pos _
  obtain ⟨i, hi, ei⟩ := mod_nat (x := x0) (n := T.roads.length) lp
  rw [ei]
  have er := List.getElem?_eq_getElem hi
  generalize T.roads[i] = rd at er
  obtain ⟨p, ep, tp⟩ := rds_at w2 er
  have okr := ok.rd rd (List.mem_of_getElem? er)
  refine ⟨by omega, g_ixL e2 (at_lit i rfl ep) (g_tupX tp rfl ?_)⟩
  walk_at "sx"
  refine ⟨_, _, rfl, _, _, rfl, _, _, rfl, _, _, rfl, rfl, ?_⟩
  walk_at "sx"
  have fin1 : ∀ (H3 : Hp) (r' : Rd) (y8 : Option V), Keep [] H2 H3 → RdOk T.places r' → t__law_twin_r1 K { nx := fun σ H' => t__law_twin_r2 K { nx := fun x H' => Q V.non H', rt := Q } σ H', rt := Q } [some (.ref t), some (.ref r), some (.ref l), some (.int (i : Nat)), some (.str r'.one), some (.str r'.two), some (mV r'.there), some (mV r'.back), y8] H3 := fun H3 r' y8 k3 ok' => by
    unfold t__law_twin_r1
    walk_at "sx"
    refine ⟨by walk_at "sz", fun tq H4 n4 k4 f4 => ?_⟩
    have k24 := k3.trans k4
    have hix : ixN rv.length (i : Int) = some i := by
      unfold ixN
      rw [g4.len, if_pos (by omega), if_pos (by omega)]
      rfl
    have e4 := k24 _ _ nin0 e2
    refine g_setL e4 hix fun H5 k5 f5 => ?_
    have nl : H l = none := n1
    refine fin l H5 _ (T.roads.set i r') _ _ _ _ _ _ ((k12.trans k24).past k5 nl) f5 ?_ (by rw [List.length_set]) fun x hx => ?_
    · exact rds_set (RdAt.keep (r := r') f4 k5 (noTup1 e4)) ((w2.keep k24 noTup0).keep k5 (noTup1 e4)) i
    · rcases List.mem_or_eq_of_mem_set hx with h | h
      · exact ok.rd x h
      · rw [h]; exact ok'
  refine g_ixL (k12 _ _ nin0 hr) at1 ?_
  walk_at "sx"
  refine ⟨by decide, g_eq rfl ⟨_, rfl, ?_⟩⟩
  split
  · exact ⟨_, _, rfl, fin1 H2 ⟨rd.one, rd.two, rd.back, rd.there⟩ _ (Keep.refl _ _) ⟨okr.one, okr.two, okr.ne, okr.back, okr.there, okr.some.symm⟩⟩
  refine g_ixL (k12 _ _ nin0 hr) at1 ?_
  walk_at "sx"
  refine ⟨by decide, g_eq rfl ⟨_, rfl, ?_⟩⟩
  split
  · exact ⟨_, _, rfl, fin1 H2 ⟨rd.two, rd.one, rd.there, rd.back⟩ _ (Keep.refl _ _) ⟨okr.two, okr.one, okr.ne.symm, okr.there, okr.back, okr.some⟩⟩
  refine ⟨by walk_at "sz", fun l2 H3 n3 k3 f3 => ?_⟩
  have one : (∀ v : Option Int, minOk v → (v = none ↔ rd.there = none) → ∀ l4 H4, Keep [] H2 H4 → H4 l4 = some (.lst [mV v]) → uIx K (.ref l4) (.int 0) H4 fun x H1 => t__law_twin_r1 K { nx := t__law_twin_r2 K { nx := fun x H' => Q V.non H', rt := Q }, rt := Q } [some (.ref t), some (.ref r), some (.ref l), some (.int (i : Nat)), some (.str rd.one), some (.str rd.two), some x, some (mV rd.back), none] H1) := fun v mv iv l4 H4 k4 f4 =>
    g_ixL f4 (at_lit 0 rfl rfl) (fin1 H4 ⟨rd.one, rd.two, v, rd.back⟩ _ k4 ⟨okr.one, okr.two, okr.ne, mv, okr.back, by
      rcases okr.some with h | h
      · exact .inl fun z => h (iv.mp z)
      · exact .inr h⟩)
  refine g_CL (S := []) (fun _ h => (List.not_mem_nil h).elim) f3 nin0 ⟨fun j H' acc => (j = 0 ∧ acc = []) ∨ (j = 1 ∧ ∃ v, minOk v ∧ (v = none ↔ rd.there = none) ∧ acc = [mV v]), fun _ _ _ _ => .inl ⟨rfl, rfl⟩, ?_, ?_⟩
  · rintro L j H4 acc R R0 nL hj k4 eL hacc hR hR0
    have hj0 : j = 0 := by simpa using hj
    subst hj0
    rcases hacc with ⟨_, rfl⟩ | ⟨z, _⟩
    · have go : ∀ (v : Option Int) (H5 : Hp), Keep [] H4 H5 → minOk v → (v = none ↔ rd.there = none) → R (mV v) H5 := fun v H5 k5 mv iv => hR _ H5 k5 (by exact len_lt (show 0 ≤ 1000000 by decide)) fun H6 k6 => .inr ⟨rfl, v, mv, iv, rfl⟩
      show gName 8 (mV rd.there) _ _ _
      walk_at "sx"
      cases eth : rd.there with
      | none =>
        rw [eth] at go
        rw [if_pos (show mV none = V.non from rfl)]
        exact go none H4 (Keep.refl _ _) (fun i e => nomatch e) Iff.rfl
      | some w =>
        rw [eth] at go
        have mw := okr.there w eth
        rw [if_neg (show ¬ mV (some w) = V.non from fun e => nomatch e)]
        refine ⟨by walk_at "sz", fun l3 H5 n5 k5 f5 => g_eq (scal_mV _ _) ?_⟩
        rw [eq_mV]
        walk_at "sx"
        by_cases h60 : w = 60
        · subst h60
          rw [if_pos rfl]
          refine g_ixL f5 (at_lit 1 rfl rfl) ?_
          show uAdd K (.int 60) (.int (-1)) H5 R
          refine e_addI.mpr ?_
          exact go (some 59) H5 k5 (fun i e => by cases e; exact ⟨by decide, by decide⟩) ⟨fun e => (nomatch e), fun e => (nomatch e)⟩
        · rw [if_neg h60]
          refine g_ixL f5 (at_lit 0 rfl rfl) ?_
          show uAdd K (.int w) (.int 1) H5 R
          refine e_addI.mpr ?_
          exact go (some (w + 1)) H5 k5 (fun i e => by cases e; omega) ⟨fun e => (nomatch e), fun e => (nomatch e)⟩
    · cases z
  · rintro L H4 acc nL k4 eL hacc
    rcases hacc with ⟨z, _⟩ | ⟨_, v, mv, iv, rfl⟩
    · cases z
    · exact one v mv iv L H4 (k3.trans k4) eL


theorem Alike.keep {K : PySem.W.Frag} {S : List Addr} {H H' : Hp} {f d : V} (h : Alike K H f d) (k : Keep S H H') (n : NoTup S H) : Alike K H' f d := by
  rcases h with h | ⟨p, q, e1, e2, h | h | h⟩
  · exact .inl h
  · obtain ⟨m, D, a, b⟩ := h
    exact .inr ⟨p, q, e1, e2, .inl ⟨m, D, a.keepS k n, b.keepS k n⟩⟩
  · obtain ⟨is, a, b⟩ := h
    exact .inr ⟨p, q, e1, e2, .inr (.inl ⟨is, a.keep k (n _ _ a), b.keep k (n _ _ b)⟩)⟩
  · obtain ⟨w, m, hw, a, b⟩ := h
    exact .inr ⟨p, q, e1, e2, .inr (.inr ⟨w, m, hw, a.keep k (n _ _ a), b.keep k (n _ _ b)⟩)⟩
def TolAt (K : PySem.W.Frag) (H : Hp) (tol : Addr) (m : Nat) : Prop := ∃ ts, H tol = some (.lst ts) ∧ ts.length ≤ m ∧ ∀ x ∈ ts, ∃ p f d, x = .ref p ∧ Tup H p [f, d] ∧ Alike K H f d
theorem TolAt.keep {K : PySem.W.Frag} {S : List Addr} {H H' : Hp} {tol : Addr} {m : Nat} (h : TolAt K H tol m) (k : Keep S H H') (n : NoTup S H) (hn : tol ∉ S) : TolAt K H' tol m := by
  obtain ⟨ts, e, l, o⟩ := h
  exact ⟨ts, k _ _ hn e, l, fun x hx => by
    obtain ⟨p, f, d, ex, tp, al⟩ := o x hx
    exact ⟨p, f, d, ex, tp.keep k (n _ _ tp), al.keep k n⟩⟩
theorem TolAt.kt {K : PySem.W.Frag} {L : List Addr} {H H' : Hp} {tol : Addr} {m : Nat} (h : TolAt K H tol m) (ht : Tabs L H) (k : KT L H H') : TolAt K H' tol m := h.keep k.k ht.noTup (by obtain ⟨ts, e, _⟩ := h; exact ht.lst e)
/-- what stands before the cells -/
structure Stage (H : Hp) (T : Tn) (tl sl pl : Addr) : Prop where
  tn : ∃ vs, H tl = some (.lst vs) ∧ vs.length = 2 ∧ ∀ a, a < 2 → ∃ ta Ta, vs[a]? = some (.ref ta) ∧ TnAt H ta Ta ∧ TnOk Ta ∧ Ta.places = T.places
  st : ∃ vs, H sl = some (.lst vs) ∧ vs.length = 2 ∧ ∀ a, a < 2 → ∃ (sa : Addr) (zs : List Int), vs[a]? = some (.ref sa) ∧ Tup H sa (zs.map V.int)
  pl : ∃ vs, H pl = some (.lst vs) ∧ vs.length = 4 ∧ ∀ a, a < 4 → ∃ p : Nat, vs[a]? = some (.int (p : Nat)) ∧ p < T.places.length
theorem Stage.kt {L : List Addr} {H H' : Hp} {T : Tn} {tl sl pl : Addr} (h : Stage H T tl sl pl) (ht : Tabs L H) (k : KT L H H') : Stage H' T tl sl pl := by
  obtain ⟨⟨v1, a1, b1, c1⟩, ⟨v2, a2, b2, c2⟩, ⟨v3, a3, b3, c3⟩⟩ := h
  exact ⟨⟨v1, k.k _ _ (ht.lst a1) a1, b1, fun a ha => by
    obtain ⟨ta, Ta, e, t, o, p⟩ := c1 a ha
    exact ⟨ta, Ta, e, t.kt ht k, o, p⟩⟩, ⟨v2, k.k _ _ (ht.lst a2) a2, b2, fun a ha => by
    obtain ⟨sa, zs, e, t⟩ := c2 a ha
    exact ⟨sa, zs, e, t.kt ht k⟩⟩, ⟨v3, k.k _ _ (ht.lst a3) a3, b3, c3⟩⟩
/-- one turn -/
theorem turn_ok (K : PySem.W.Frag) {L : List Addr} {E : Ends} {a t r tl sl pl tol some8 at9 one sh : Addr} {cell : Int} {y12 : Nat} {y13 y14 y15 y16 y17 y18 : Option V} {H : Hp} {T To : Tn} {zs : List Int} {xs : List Int} {as : List Nat} {m : Nat}
    (ht : Tabs L H) (st : Stage H T tl sl pl) (tol' : TolAt K H tol m) (hm : m ≤ 1000) (h8 : H some8 = some (.lst (xs.map V.int))) (l8 : xs.length = 7) (h9 : H at9 = some (.lst (as.map fun k : Nat => V.int (k : Nat)))) (l9 : as.length = 4) (b9 : ∀ k ∈ as, k < 2) (n1 : some8 ≠ tol) (n2 : at9 ≠ tol) (n3 : some8 ≠ at9)
    (hT : TnAt H one To) (ok : TnOk To) (hp : To.places = T.places) (hz : Tup H sh (zs.map V.int))
    (q : ∀ H' v13 v14 v15 v16 v17 (as' : List Nat) H1 H2, KT L H H1 → Keep [tol] H1 H2 → Keep [at9] H2 H' → TolAt K H' tol (m + 1) → H' some8 = some (.lst (xs.map V.int)) → H' at9 = some (.lst (as'.map fun k : Nat => V.int (k : Nat))) → as'.length = 4 → (∀ k ∈ as', k < 2) →
      E.nx [some (.ref a), some (.ref t), some (.ref r), some (.ref tl), some (.ref sl), some (.ref pl), some (.ref tol), some (.int cell), some (.ref some8), some (.ref at9), some (.ref one), some (.ref sh), some (.int (y12 : Nat)), v13, v14, v15, v16, v17, y18] H') :
    t_law_b1 K (spLined K) spRow (spCell K) spTwin spShut spChart spLWay (spPair K L) E [some (.ref a), some (.ref t), some (.ref r), some (.ref tl), some (.ref sl), some (.ref pl), some (.ref tol), some (.int cell), some (.ref some8), some (.ref at9), some (.ref one), some (.ref sh), some (.int (y12 : Nat)), y13, y14, y15, y16, y17, y18] H := by
  obtain ⟨x4, e4⟩ : ∃ x, (xs.map V.int)[4]? = some (V.int x) := ⟨xs[4], by rw [List.getElem?_map, List.getElem?_eq_getElem (by omega)]; rfl⟩
  have ga : ∀ j, j < 4 → ∃ k : Nat, k < 2 ∧ (as.map fun k : Nat => V.int (k : Nat))[j]? = some (V.int (k : Nat)) := fun j hj => ⟨as[j], b9 _ (List.getElem_mem _), by rw [List.getElem?_map, List.getElem?_eq_getElem (by omega)]; rfl⟩
  obtain ⟨a0, b0, c0⟩ := ga 0 (by decide)
  obtain ⟨a1, b1, c1⟩ := ga 1 (by decide)
  obtain ⟨a2, b2, c2⟩ := ga 2 (by decide)
  obtain ⟨a3, b3, c3⟩ := ga 3 (by decide)
  obtain ⟨pv, ep, lp, op⟩ := id st.pl
  obtain ⟨p2, f2, g2⟩ := op a2 (by omega)
  obtain ⟨p3, f3, g3⟩ := op (2 + a3) (by omega)
  have r2 : ∀ (H2 : Hp) (th : V) (z14 z15 : Option V), KT L H H2 → (x4 % 6 = 3 → ∃ (r : Addr) (ks : List Int), th = .ref r ∧ Tup H2 r (ks.map V.int)) → (x4 % 6 = 5 → ∃ c D, th = .ref c ∧ ChAt H2 c T.places.length D ∧ ∀ g h d, D g h = some d → 0 ≤ d) →
      t_law_r2 K (spLined K) spRow (spCell K) spTwin spShut spChart spLWay (spPair K L) E [some (.ref a), some (.ref t), some (.ref r), some (.ref tl), some (.ref sl), some (.ref pl), some (.ref tol), some (.int cell), some (.ref some8), some (.ref at9), some (.ref one), some (.ref sh), some (.int (y12 : Nat)), some th, z14, z15, y16, y17, y18] H2 := fun H2 th z14 z15 k2 a3' a5' => by
    have st2 := st.kt ht k2
    have ht2 := k2.t ht
    have h92 := k2.k _ _ (ht.lst h9) h9
    have h82 := k2.k _ _ (ht.lst h8) h8
    obtain ⟨⟨tv, et, lt, ot⟩, ⟨sv, es, ls, os⟩, ⟨pv2, ep2, lp2, op2⟩⟩ := st2
    obtain ⟨ta, Ta, u1, u2, u3, u4⟩ := ot a0 b0
    obtain ⟨sa, za, w1, w2⟩ := os a1 b1
    obtain ⟨q2, i2, j2⟩ := op2 a2 (by omega)
    obtain ⟨q3, i3, j3⟩ := op2 (2 + a3) (by omega)
    unfold t_law_r2
    walk_at "sx"
    refine g_ixL h92 (at_lit 0 rfl c0) (g_ixL et (at_lit a0 rfl u1) (g_ixL h92 (at_lit 1 rfl c1) (g_ixL es (at_lit a1 rfl w1) (g_ixL h92 (at_lit 2 rfl c2) (g_ixL ep2 (at_lit a2 rfl i2) (g_ixL h92 (at_lit 3 rfl c3) ?_))))))
    walk_at "sx"
    refine g_ixL ep2 (at_lit (2 + a3) (by omega) i3) (g_ixL h82 (at_lit 4 rfl e4) ?_)
    walk_at "sx"
    refine ⟨by decide, ta, sa, q2, q3, Ta, za, x4 % 6, th, rfl, u2, u3, w2, by rw [u4]; exact j2, by rw [u4]; exact j3, ht2, by omega, by omega, a3', by rw [u4]; exact a5', fun p f d H3 k3 tp al => ?_⟩
    refine g_tupX tp rfl ?_
    walk_at "sx"
    refine ⟨_, _, rfl, _, _, rfl, rfl, g_alike (ne := true) al ⟨_, rfl, ?_⟩⟩
    rw [if_neg (by decide)]
    refine g_alikeIs al ⟨_, rfl, ?_⟩
    rw [if_neg (by decide)]
    have k03 := k2.trans k3
    obtain ⟨ts, g1, g2', g3'⟩ := tol'.kt ht k03
    have h93 := k03.k _ _ (ht.lst h9) h9
    have h83 := k03.k _ _ (ht.lst h8) h8
    unfold t_law_r1
    walk_at "sx"
    refine ⟨.inl ⟨rfl, _, .inl (.inl g1)⟩, by walk_at "sz", fun tq H4 n4 k4 f4 => ?_⟩
    have g14 := k4 _ _ nin0 g1
    refine g_append g14 (len_lt (by omega)) fun H5 k5 f5 => ?_
    have h95 := k5 _ _ (nin1 n2) (k4 _ _ nin0 h93)
    have h85 := k5 _ _ (nin1 n1) (k4 _ _ nin0 h83)
    obtain ⟨av, bv, cv⟩ := ga (y12 % 4) (by omega)
    walk_at "sx"
    refine ⟨by decide, g_ixL h95 (at_lit (y12 % 4) (by omega) cv) (e_rI0.mpr ⟨by decide, ?_⟩)⟩
    have hix : ixN (as.map fun k : Nat => V.int (k : Nat)).length ((y12 : Int) % 4) = some (y12 % 4) := by
      unfold ixN
      rw [if_pos (by omega), List.length_map, l9, if_pos (by omega)]
      congr 1
    refine g_setL h95 hix fun H6 k6 f6 => ?_
    have hmem : ∀ k ∈ as.set (y12 % 4) (1 - av), k < 2 := fun k hk => by
      rcases List.mem_or_eq_of_mem_set hk with h | h
      · exact b9 k h
      · omega
    refine q H6 _ _ _ _ _ (as.set (y12 % 4) (1 - av)) H4 H5 (k03.trans (KT.of0 k4)) k5 k6 ⟨ts ++ [.ref tq], k6 _ _ (nin1 n2.symm) f5, by rw [List.length_append]; exact Nat.add_le_add_right g2' 1, fun x hx => ?_⟩ (k6 _ _ (nin1 n3) h85) ?_ (by rw [List.length_set, l9]) hmem
    · have up : ∀ {p' : Addr} {f' d' : V}, Tup H4 p' [f', d'] → Alike K H4 f' d' → Tup H6 p' [f', d'] ∧ Alike K H6 f' d' := fun tp' al' =>
        ⟨((tp'.keep k5 (noTup1 g14 _ _ tp')).keep k6 (noTup1 h95 _ _ (tp'.keep k5 (noTup1 g14 _ _ tp')))), (al'.keep k5 (noTup1 g14)).keep k6 (noTup1 h95)⟩
      rcases List.mem_append.mp hx with h | h
      · obtain ⟨p', f', d', ex, tp', al'⟩ := g3' x h
        obtain ⟨z1, z2⟩ := up (tp'.keep k4 nin0) (al'.keep k4 noTup0)
        exact ⟨p', f', d', ex, z1, z2⟩
      · rw [List.mem_singleton.mp h]
        obtain ⟨z1, z2⟩ := up f4 (al.keep k4 noTup0)
        exact ⟨tq, f, d, rfl, z1, z2⟩
    · rw [f6, List.map_set, show ((1 : Int) - (av : Nat)) = ((1 - av : Nat) : Int) by omega]
  unfold t_law_b1
  walk_at "sx"
  refine ⟨one, sh, To, zs, rfl, hT, ok, hz, fun c H1 D k1 hc ch => ?_⟩
  have h81 := k1 _ _ nin0 h8
  walk_at "sx"
  refine g_ixL h81 (at_lit 4 rfl e4) ?_
  walk_at "sx"
  refine ⟨by decide, g_eq rfl ⟨_, rfl, ?_⟩⟩
  have st1 := st.kt ht (KT.of0 (L := L) k1)
  split
  · rename_i h3
    obtain ⟨pv1, ep1, lp1, op1⟩ := id st1.pl
    obtain ⟨q2, i2, j2⟩ := op1 a2 (by omega)
    obtain ⟨q3, i3, j3⟩ := op1 (2 + a3) (by omega)
    have h91 := k1 _ _ nin0 h9
    refine g_ixL h91 (at_lit 2 rfl c2) (g_ixL ep1 (at_lit a2 rfl i2) (g_ixL h91 (at_lit 3 rfl c3) ?_))
    walk_at "sx"
    refine g_ixL ep1 (at_lit (2 + a3) (by omega) i3) ⟨_, _, rfl, one, sh, c, q2, q3, To, zs, D, rfl, hT.keep k1 noTup0, ok, hz.keep k1 nin0, hc, ch, by rw [hp]; exact j2, by rw [hp]; exact j3, fun en => ?_, fun H2 p ks d k2 ed tp fw l6 => ?_⟩
    · dsimp only
      rw [if_pos rfl]
      refine ⟨by walk_at "sz", fun e0 H2 n2 k2 f2 => ?_⟩
      refine r2 H2 _ _ _ (KT.of0 (k1.trans k2)) (fun _ => ⟨e0, [], rfl, f2⟩) fun e => ?_
      have : x4 % 6 = 3 := by simpa using h3
      omega
    · dsimp only
      rw [if_neg (show ¬ V.ref p = V.non from fun e => nomatch e)]
      refine r2 H2 _ _ _ (KT.of0 (k1.trans k2)) (fun _ => ⟨p, ks.map fun k : Nat => (k : Int), rfl, by rw [List.map_map]; exact tp⟩) fun e => ?_
      have : x4 % 6 = 3 := by simpa using h3
      omega
  · rename_i h3
    exact r2 H1 _ _ _ (KT.of0 k1) (fun e => absurd (by rw [e]; rfl) h3) fun _ => ⟨c, D, rfl, hp ▸ hc, ch.pos⟩


theorem rd_law (K : PySem.W.Frag) {L : List Addr} : ∀ vs H Q E, spLaw K L vs H Q E → run (t_law K (spLined K) spRow (spCell K) spTwin spShut spChart spLWay (spPair K L)) (L2.start N_law vs) H Q := by
  rintro _ H Q _ ⟨a, ns, rfl, hS, hl, ht, q⟩
  show run (t_law K (spLined K) spRow (spCell K) spTwin spShut spChart spLWay (spPair K L)) [some (.ref a), none, none, none, none, none, none, none, none, none, none, none, none, none, none, none, none, none, none] H Q
  unfold t_law
  walk_at "sx"
  refine ⟨a, ns, rfl, hS, fun t H1 T k1 hT ok => ?_⟩
  walk_at "sx"
  refine ⟨a, _, ns, rfl, (hS.keep0 k1).sq, by decide, fun c21 => ?_⟩
  walk_at "sx"
  refine ⟨c21, 8, rfl, by decide, fun r H2 xs n2 k2 lx hr => ?_⟩
  obtain ⟨hr, hx⟩ := hr
  walk_at "sx"
  refine g_slL (lst_sq hr) fun r4 H3 n3 k3 f3 => ?_
  rw [show cutV (xs.map V.int) (some 4) none = (xs.drop 4).map V.int from by rw [List.map_drop]; exact cut_from 4] at f3
  have hT3 := (hT.keep k2 noTup0).keep k3 noTup0
  refine ⟨t, r4, T, xs.drop 4, rfl, hT3, ok, f3, by rw [List.length_drop]; omega, fun t2 H4 T2 k4 hT2 ok2 ep2 er2 => ?_⟩
  refine ⟨by walk_at "sz", fun tl H5 n5 k5 f5 => ?_⟩
  walk_at "sx"
  have k15 := k2.trans (k3.trans (k4.trans k5))
  have hS5 : Scr K H5 a (ns.map V.int) := hS.keep0 (k1.trans k15)
  have hT5 := hT.keep k15 noTup0
  refine g_CR1 (S := []) (fun _ h => (List.not_mem_nil h).elim) (by decide) (by decide) ⟨fun i H' acc => acc.length = i ∧ ∀ j, j < i → ∃ (sa : Addr) (zs : List Int), acc[j]? = some (.ref sa) ∧ Tup H' sa (zs.map V.int), fun D H2 _ _ => ⟨rfl, fun j hj => by omega⟩, ?_, ?_⟩
  · rintro D i H6 acc R R0 nD hi k6 eD ⟨la, hacc⟩ hR hR0
    walk_at "sx"
    refine ⟨a, _, ns, rfl, (hS5.keep0 k6).sq, by omega, fun cc => ?_⟩
    refine ⟨t, cc, T, rfl, hT5.keep k6 noTup0, ok, fun p H7 zs k7 t7 _ => hR _ H7 k7 (by rw [la]; exact len_lt (Nat.le_trans (Nat.le_of_lt hi) (by decide))) fun H8 k8 => ⟨by rw [List.length_append, la]; rfl, fun j hj => ?_⟩⟩
    have n7 : NoTup [D] H7 := noTup1 (k7 _ _ nin0 eD)
    by_cases h : j < i
    · obtain ⟨sa, zs', e, tz⟩ := hacc j h
      exact ⟨sa, zs', by rw [List.getElem?_append_left (by omega)]; exact e, (tz.keep k7 nin0).keep k8 (n7 _ _ (tz.keep k7 nin0))⟩
    · have hj' : j = i := by omega
      exact ⟨p, zs, by rw [List.getElem?_append_right (by omega), hj', la, Nat.sub_self]; rfl, t7.keep k8 (n7 _ _ t7)⟩
  rintro sl H6 acc n6 k6 e6 ⟨la, hacc⟩
  have la2 : acc.length = 2 := la
  have k16 := k15.trans k6
  have hT6 := hT.keep k16 noTup0
  have nsl : H1 sl = none := k15.free nin0 n6
  have hT6' := hT6
  obtain ⟨ap, ar, as, rv, g1, g2, g3, g4, g5⟩ := hT6'
  walk_at "sx"
  refine g_ixT g1 (at_lit 1 rfl rfl) (g_lenT g3 (g_eq rfl ⟨_, rfl, ?_⟩))
  have cont : ∀ (H7 : Hp) (acc' : List V), Keep [sl] H6 H7 → H7 sl = some (.lst acc') → acc'.length = 2 → (∀ j, j < 2 → ∃ (sa : Addr) (zs : List Int), acc'[j]? = some (.ref sa) ∧ Tup H7 sa (zs.map V.int)) →
      t_law_r4 K (spLined K) spRow (spCell K) spTwin spShut spChart spLWay (spPair K L) { nx := fun x H' => Q V.non H', rt := Q } [some (.ref a), some (.ref t), some (.ref r), some (.ref tl), some (.ref sl), none, none, none, none, none, none, none, none, none, none, none, none, none, none] H7 := fun H7 acc' k7 e7 l7 o7 => ?_
  · split
    · refine ⟨by walk_at "sz", fun e0 H7 n7 k7 f7 => ?_⟩
      have e67 := k7 _ _ nin0 e6
      refine g_setL e67 (show ixN acc.length 1 = some 1 from by rw [la2]; rfl) fun H8 k8 f8 => ?_
      refine cont H8 _ (k7.all.trans k8) f8 (by rw [List.length_set]; exact la2) fun j hj => ?_
      have n7' := noTup1 e67
      by_cases h1 : j = 1
      · subst h1
        exact ⟨e0, [], by rw [List.getElem?_set_self (by omega)], f7.keep k8 (n7' _ _ f7)⟩
      · obtain ⟨sa, zs, e, tz⟩ := hacc j hj
        have := tz.keep k7 nin0
        exact ⟨sa, zs, by rw [List.getElem?_set_ne (fun z => h1 z.symm)]; exact e, this.keep k8 (n7' _ _ this)⟩
    · exact cont H6 acc (Keep.refl _ _) e6 la2 hacc
  have k57 : Keep [] H5 H7 := k6.past k7 n6
  have k25 := k3.trans (k4.trans k5)
  have hr7 := (k25.trans k57) _ _ nin0 hr
  have tl7 := k57 _ _ nin0 f5
  have hT7 := hT5.keep k57 noTup0
  have hT27 := (hT2.keep k5 noTup0).keep k57 noTup0
  have k17 : Keep [] H H7 := k1.trans (k15.trans k57)
  have ht7 := ht.keep0 k17
  have hS7 : Scr K H7 a (ns.map V.int) := hS.keep0 k17
  have p1 := ok.p1
  have hT7' := hT7
  obtain ⟨bp, br, bs, bv, u1, u2, u3, u4, u5⟩ := hT7'
  have hx0 : ∀ x ∈ xs, 0 ≤ x := fun x h => (hx x h).1
  unfold t_law_r4
  walk_at "sx"
  refine g_CR1 (S := []) (fun _ h => (List.not_mem_nil h).elim) (by decide) (by decide) ⟨fun i H' acc => acc.length = i ∧ ∀ j, j < i → ∃ p : Nat, acc[j]? = some (.int (p : Nat)) ∧ p < T.places.length, fun D H2 _ _ => ⟨rfl, fun j hj => by omega⟩, ?_, ?_⟩
  · rintro D i H8 acc R R0 nD hi k8 eD ⟨la, hacc⟩ hR hR0
    have hi4 : i < 4 := hi
    obtain ⟨y, py, ey⟩ := xat hx0 (k := i) (by omega)
    obtain ⟨w, hw, ew⟩ := mod_nat (x := y) (n := T.places.length) (by omega)
    walk_at "sx"
    refine g_ixL (k8 _ _ nin0 hr7) (at_lit i rfl ey) (g_ixT (u1.keep k8 nin0) (at_lit 0 rfl rfl) (g_lenT (u2.keep k8 nin0) ?_))
    rw [List.length_map]
    walk_at "sx"
    rw [ew]
    refine ⟨by omega, hR _ H8 (Keep.refl _ _) (by rw [la]; exact len_lt (by omega)) fun H9 k9 => ⟨by rw [List.length_append, la]; rfl, fun j hj => ?_⟩⟩
    by_cases h : j < i
    · obtain ⟨p, e, l⟩ := hacc j h
      exact ⟨p, by rw [List.getElem?_append_left (by omega)]; exact e, l⟩
    · have hj' : j = i := by omega
      exact ⟨w, by rw [List.getElem?_append_right (by omega), hj', la, Nat.sub_self]; rfl, hw⟩
  rintro pl H8 acc n8 k8 e8 ⟨la, hacc⟩
  have la4 : acc.length = 4 := la
  walk_at "sx"
  refine ⟨by walk_at "sz", fun tol H9 n9 k9 f9 => ?_⟩
  walk_at "sx"
  have k79 := k8.trans k9
  have n3t : ∀ j, j < 2 → ∃ (sa : Addr) (zs : List Int), acc'[j]? = some (.ref sa) ∧ Tup H8 sa (zs.map V.int) := fun j hj => by
    obtain ⟨sa, zs, e, tz⟩ := o7 j hj
    exact ⟨sa, zs, e, tz.keep k8 nin0⟩
  have st8 : Stage H8 T tl sl pl := ⟨⟨_, k8 _ _ nin0 tl7, rfl, fun j hj => by
      by_cases h : j = 0
      · subst h
        exact ⟨t, T, rfl, hT7.keep k8 noTup0, ok, rfl⟩
      · have hj1 : j = 1 := by omega
        subst hj1
        exact ⟨t2, T2, rfl, hT27.keep k8 noTup0, ok2, ep2⟩⟩, ⟨acc', k8 _ _ nin0 e7, l7, n3t⟩, ⟨acc, e8, la4, hacc⟩⟩
  have ht8 := ht7.keep0 k8
  have nt8 : H8 tol = none := n9
  have tol9 : TolAt K H9 tol 0 := ⟨[], f9, Nat.le_refl _, fun x h => (List.not_mem_nil h).elim⟩
  refine ⟨by walk_at "sz", fun zl HA nA kA fA => ?_⟩
  have hSA : Scr K HA a (ns.map V.int) := hS7.keep0 (k79.trans kA)
  refine g_slL hSA.sq fun cl HB nB kB eB => ?_
  rw [cut_map] at eB
  have hcl : ((ns.drop (HT.sIx ns.length 0 (some 22))).take (HT.sIx ns.length ns.length (some 52) - HT.sIx ns.length 0 (some 22))).length ≤ 63 := by
    rw [List.length_take, List.length_drop]; omega
  generalize ((ns.drop (HT.sIx ns.length 0 (some 22))).take (HT.sIx ns.length ns.length (some 52) - HT.sIx ns.length 0 (some 22))) = cs at eB hcl
  refine g_addL (kB _ _ nin0 fA) eB (by rw [List.length_map]; exact len_le (show 2 + cs.length ≤ 1000000 by omega)) fun al HC nC kC eC => ?_
  have k9C := kA.trans (kB.trans kC)
  have eC' : HC al = some (.lst ((0 :: 1 :: cs).map V.int)) := eC
  have tolC := tol9.keep k9C noTup0 nin0
  have ktC : KT L H8 HC := KT.of0 (k9.trans k9C)
  have alt : al ≠ tol := fun z => by rw [z] at nC; rw [(kA.trans kB) _ _ nin0 f9] at nC; cases nC
  have htC := ktC.t ht8
  refine g_FL (fun i σ H' => ∃ y7 y8 y9 y10 y11 y12 y13 y14 y15 y16 y17 y18, σ = [some (.ref a), some (.ref t), some (.ref r), some (.ref tl), some (.ref sl), some (.ref pl), some (.ref tol), y7, y8, y9, y10, y11, y12, y13, y14, y15, y16, y17, y18] ∧ KT L H8 H' ∧ TolAt K H' tol (6 * i) ∧ H' al = some (.lst ((0 :: 1 :: cs).map V.int))) (lst_sq eC') ⟨_, _, _, _, _, _, _, _, _, _, _, _, rfl, ktC, tolC, eC'⟩ (fun i σ H' _ ⟨_, _, _, _, _, _, _, _, _, _, _, _, _, _, _, e⟩ => lst_sq e) ?_ ?_
  · rintro i x σ HD hxi ⟨y7, y8, y9, y10, y11, y12, y13, y14, y15, y16, y17, y18, rfl, kD, tolD, eD⟩
    have hil : i < 65 := by
      have := (List.getElem?_eq_some_iff.mp hxi).1
      rw [List.length_map] at this
      simp only [List.length_cons] at this
      omega
    rw [List.getElem?_map] at hxi
    obtain ⟨cell, hcell, rfl⟩ := Option.map_eq_some_iff.mp hxi
    have htD := kD.t ht8
    unfold t_law_b2
    walk_at "sx"
    refine ⟨cell, 7, rfl, by decide, fun some8 HE ys nE kE ly hy => ?_⟩
    obtain ⟨hy, hyy⟩ := hy
    have hy0 : ∀ x ∈ ys, 0 ≤ x := fun x h => (hyy x h).1
    walk_at "sx"
    refine g_CR1 (S := []) (fun _ h => (List.not_mem_nil h).elim) (by decide) (by decide) ⟨fun i H' acc => ∃ as : List Nat, acc = as.map (fun k : Nat => V.int (k : Nat)) ∧ as.length = i ∧ ∀ k ∈ as, k < 2, fun D H2 _ _ => ⟨[], rfl, rfl, fun _ h => (List.not_mem_nil h).elim⟩, ?_, ?_⟩
    · rintro D j HF acc R R0 nD hi kF eD ⟨as, rfl, la, ha⟩ hR hR0
      have hj4 : j < 4 := hi
      obtain ⟨y, py, ey⟩ := xat hy0 (k := j) (by omega)
      obtain ⟨w, hw, ew⟩ := mod_nat (x := y) (n := 2) (by decide)
      walk_at "sx"
      refine g_ixL (kF _ _ nin0 hy) (at_lit j rfl ey) ?_
      walk_at "sx"
      rw [show y % 2 = (w : Nat) from ew]
      refine ⟨by decide, hR _ HF (Keep.refl _ _) (by rw [List.length_map, la]; exact len_lt (by omega)) fun HG kG => ⟨as ++ [w], by rw [List.map_append]; rfl, by rw [List.length_append, la]; rfl, fun k hk => ?_⟩⟩
      rcases List.mem_append.mp hk with h | h
      · exact ha k h
      · rw [List.mem_singleton.mp h]; exact hw
    rintro at9 HF acc nF kF eF ⟨as, rfl, la, ha⟩
    have la4' : as.length = 4 := la
    walk_at "sx"
    have kEF := kE.trans kF
    have stF := st8.kt ht8 (kD.trans (KT.of0 kEF))
    have htF := (KT.of0 (L := L) kEF).t htD
    have tolF := tolD.keep kEF noTup0 nin0
    have hyF := kF _ _ nin0 hy
    have alF := kEF _ _ nin0 eD
    obtain ⟨⟨tv, et, lt, ot⟩, ⟨sv, es, ls, os⟩, _⟩ := id stF
    obtain ⟨y5, p5, e5⟩ := xat hy0 (k := 5) (by omega)
    obtain ⟨y6, p6, e6⟩ := xat hy0 (k := 6) (by omega)
    obtain ⟨w5, hw5, ew5⟩ := mod_nat (x := y5) (n := 2) (by decide)
    obtain ⟨w6, hw6, ew6⟩ := mod_nat (x := y6) (n := 2) (by decide)
    obtain ⟨one, To, v1, v2, v3, v4⟩ := ot w5 hw5
    obtain ⟨sh, zs, z1, z2⟩ := os w6 hw6
    refine g_ixL hyF (at_lit 5 rfl e5) ?_
    walk_at "sx"
    rw [show y5 % 2 = (w5 : Nat) from ew5]
    refine ⟨by decide, g_ixL et (at_lit w5 rfl v1) (g_ixL hyF (at_lit 6 rfl e6) ?_)⟩
    walk_at "sx"
    rw [show y6 % 2 = (w6 : Nat) from ew6]
    refine ⟨by decide, g_ixL es (at_lit w6 rfl z1) ?_⟩
    have tolE : ∃ ts, HD tol = some (.lst ts) := let ⟨ts, e, _⟩ := tolD; ⟨ts, e⟩
    obtain ⟨ts0, ets0⟩ := tolE
    have n1 : some8 ≠ tol := fun z => by rw [z, ets0] at nE; cases nE
    have n2 : at9 ≠ tol := fun z => by rw [z, kE _ _ nin0 ets0] at nF; cases nF
    have n3 : some8 ≠ at9 := fun z => by rw [← z, hy] at nF; cases nF
    have n4 : al ≠ at9 := fun z => by rw [← z, kE _ _ nin0 eD] at nF; cases nF
    refine g_FR1 (by decide) (by decide) ⟨fun j σ H' => ∃ (as : List Nat) (y12 y13 y14 y15 y16 y17 : Option V), σ = [some (.ref a), some (.ref t), some (.ref r), some (.ref tl), some (.ref sl), some (.ref pl), some (.ref tol), some (.int cell), some (.ref some8), some (.ref at9), some (.ref one), some (.ref sh), y12, y13, y14, y15, y16, y17, y18] ∧ KT L H8 H' ∧ TolAt K H' tol (6 * i + j) ∧ H' al = some (.lst ((0 :: 1 :: cs).map V.int)) ∧
      H' some8 = some (.lst (ys.map V.int)) ∧ H' at9 = some (.lst (as.map fun k : Nat => V.int (k : Nat))) ∧ as.length = 4 ∧ (∀ k ∈ as, k < 2) ∧ TnAt H' one To ∧ Tup H' sh (zs.map V.int), ⟨as, _, _, _, _, _, _, rfl, kD.trans (KT.of0 kEF), tolF, alF, hyF, eF, la4', ha, v2, z2⟩, ?_, ?_⟩
    · rintro j σ HG hj ⟨as', y12, y13, y14, y15, y16, y17, rfl, kG, tolG, alG, hyG, atG, lG, aG, oneG, shG⟩
      have hj6 : j < 6 := hj
      have htG := kG.t ht8
      refine turn_ok K htG (st8.kt ht8 kG) tolG (by omega) hyG (by omega) atG lG aG n1 n2 n3 oneG v3 v4 shG fun H' v13 v14 v15 v16 v17 as2 Ha Hb ka kb kc tolH h8H h9H l9H b9H => ?_
      have atA := ka.k _ _ (htG.lst atG) atG
      obtain ⟨tsG, etG, _⟩ := tolG
      have toA := ka.k _ _ (htG.lst etG) etG
      have nt1 := noTup1 toA
      have atB := kb _ _ (nin1 n2) atA
      have nt2 := noTup1 atB
      have oneA := oneG.kt htG ka
      have shA := shG.kt htG ka
      have k8a := kG.trans ka
      have k8b := k8a.past kb nt8 ht8
      have nat8 : H8 at9 = none := by
        cases e : H8 at9 with
        | none => rfl
        | some o =>
          have := (kD.trans (KT.of0 kE)).k _ _ (fun z => ?_) e
          · rw [this] at nF; cases nF
          · obtain ⟨ps, e', _⟩ := (kD.trans (KT.of0 (L := L) kE)).t ht8 _ z
            rw [e'] at nF; cases nF
      have k8c := k8b.past kc nat8 ht8
      refine ⟨as2, _, _, _, _, _, _, rfl, k8c, tolH, kc _ _ (nin1 n4) (kb _ _ (nin1 alt) (ka.k _ _ (htG.lst alG) alG)), h8H, h9H, l9H, b9H, (oneA.keep kb nt1).keep kc nt2, (shA.keep kb (nt1 _ _ shA)).keep kc (nt2 _ _ (shA.keep kb (nt1 _ _ shA)))⟩
    · rintro σ HG ⟨as', y12, y13, y14, y15, y16, y17, rfl, kG, tolG, alG, _⟩
      exact ⟨_, _, _, _, _, _, _, _, _, _, _, _, rfl, kG, tolG, alG⟩
  · rintro σ HD ⟨y7, y8, y9, y10, y11, y12, y13, y14, y15, y16, y17, y18, rfl, kD, tolD, eD⟩
    obtain ⟨ts, e, l, o⟩ := tolD
    unfold t_law_r3
    walk_at "sx"
    refine g_CL (S := []) (fun _ h => (List.not_mem_nil h).elim) e nin0 ⟨fun j H' acc => acc = List.replicate j (V.bl true), fun _ _ _ _ => rfl, ?_, ?_⟩
    · rintro D j HE acc R R0 nD hj kE eE rfl hR hR0
      obtain ⟨p, f, d, ex, tp, al'⟩ := o _ (List.getElem_mem hj)
      dsimp only
      rw [List.getD_eq_getElem?_getD, List.getElem?_eq_getElem hj, Option.getD_some, ex]
      refine g_tupX (tp.keep kE nin0) rfl ?_
      walk_at "sx"
      refine ⟨_, _, rfl, _, _, rfl, rfl, g_alike (ne := false) (al'.keep kE noTup0) (hR _ HE (Keep.refl _ _) (by rw [List.length_replicate]; exact len_lt (by rw [List.length_map] at l; simp only [List.length_cons] at l; omega)) fun HF kF => ?_)⟩
      dsimp only
      rw [List.replicate_succ']
      rfl
    · rintro D HE acc nD kE eE rfl
      refine ⟨D, List.replicate ts.length true, rfl, by rw [List.map_replicate]; exact lst_sq eE, ?_⟩
      rw [show (List.replicate ts.length true).all id = true from List.all_eq_true.mpr fun b hb => (List.mem_replicate.mp hb).2]
      exact q HE


theorem all_mk {P q : Program} {w : World} {K : PySem.W.Frag} {h : Heap} {mg : Str → Option Value} {fa : Addr} (X : K.In h) (G : h.Ns mainGlobals mg) (hfa : mg "law" = some (.ref fa))
    {c_NoPaper : Addr} (ad_NoPaper : PySem.W.nsIn K mainGlobals "NoPaper" = some (some (.ref c_NoPaper)))
    {c_WagonError : Addr} (ad_WagonError : PySem.W.nsIn K mainGlobals "WagonError" = some (some (.ref c_WagonError)))
    {c_NoDeed : Addr} (ad_NoDeed : PySem.W.nsIn K mainGlobals "NoDeed" = some (some (.ref c_NoDeed)))
    {c_NoRow : Addr} (ad_NoRow : PySem.W.nsIn K mainGlobals "NoRow" = some (some (.ref c_NoRow)))
    {c_NoLog : Addr} (ad_NoLog : PySem.W.nsIn K mainGlobals "NoLog" = some (some (.ref c_NoLog)))
    {c_TooMany : Addr} (ad_TooMany : PySem.W.nsIn K mainGlobals "TooMany" = some (some (.ref c_TooMany)))
    {c_Late : Addr} (ad_Late : PySem.W.nsIn K mainGlobals "Late" = some (some (.ref c_Late)))
    {c_NoCall : Addr} (ad_NoCall : PySem.W.nsIn K mainGlobals "NoCall" = some (some (.ref c_NoCall)))
    {c_NoTelling : Addr} (ad_NoTelling : PySem.W.nsIn K mainGlobals "NoTelling" = some (some (.ref c_NoTelling)))
    {c_NoMoment : Addr} (ad_NoMoment : PySem.W.nsIn K mainGlobals "NoMoment" = some (some (.ref c_NoMoment)))
    {c_NoTown : Addr} (ad_NoTown : PySem.W.nsIn K mainGlobals "NoTown" = some (some (.ref c_NoTown)))
    {c_NoText : Addr} (ad_NoText : PySem.W.nsIn K mainGlobals "NoText" = some (some (.ref c_NoText)))
    (wga : PySem.W.specialIn K (.ref c_WagonError) "__getattribute__" = some (some (.builtin "type.__getattribute__"))) (wrd : PySem.W.readsIn K c_WagonError (.type "type") = true) (wfi : PySem.W.findCls K (.ref c_WagonError) (.type "type") "__init__" = some (.val (.builtin "ValueError.__init__")))
    {nm_NoPaper q_NoPaper : Str} {N_NoPaper : Addr} {bs_NoPaper : List Value} {sn_NoPaper : List Str} {sub_NoPaper : List Value} {ab_NoPaper : Bool} {col_NoPaper : Option Bool} {dd_NoPaper : Option Addr} {k0_NoPaper k1_NoPaper k2_NoPaper k3_NoPaper k5_NoPaper : Option Value}
    (oc_NoPaper : K.lookup c_NoPaper = some (excClassObj nm_NoPaper q_NoPaper c_NoPaper N_NoPaper bs_NoPaper [.ref c_WagonError, .type "ValueError", .type "Exception", .type "BaseException", .type "object"] true sn_NoPaper sub_NoPaper ab_NoPaper col_NoPaper dd_NoPaper k0_NoPaper k1_NoPaper k2_NoPaper k3_NoPaper k5_NoPaper "ValueError.__new__"))
    (sa_NoPaper : PySem.W.findIn K (.ref c_NoPaper) "__setattr__" = some (some (.builtin "object.__setattr__"))) (ex_NoPaper : PySem.W.subIn K (.ref c_NoPaper) (.type "BaseException") = some true) (ty_NoPaper : PySem.W.typeIn K (.ref c_NoPaper) = some (.type "type")) (kc_NoPaper : PySem.W.keepIn K (.ref c_NoPaper) = true)
    (na_NoPaper_word : PySem.W.findIn K (.ref c_NoPaper) "word" = some none)
    (na_NoPaper_at : PySem.W.findIn K (.ref c_NoPaper) "at" = some none)
    (pf : PaperF K c_WagonError c_NoPaper [c_NoText, c_NoTown, c_NoMoment, c_NoTelling, c_NoCall, c_Late, c_TooMany, c_NoLog, c_NoRow, c_NoDeed])
    {a_NoPaper____init__ : Addr} {od_NoPaper____init__ an_NoPaper____init__ : Option Addr} {sl_NoPaper____init__ : Array (Option Value)} {oc_NoPaper____init__ kV_NoPaper____init__ dc_NoPaper____init__ pm_NoPaper____init__ cd_NoPaper____init__ ct_NoPaper____init__ : Value}
    (fi_NoPaper____init__ : PySem.W.findIn K (.ref c_NoPaper) "__init__" = some (some (.ref a_NoPaper____init__))) (ifn_NoPaper____init__ : PySem.W.isFn K (.ref a_NoPaper____init__) = true)
    (lo_NoPaper____init__ : K.lookup a_NoPaper____init__ = some ⟨oc_NoPaper____init__, od_NoPaper____init__, .func (PySem.W.fnOf "__init__" "NoPaper.__init__" (defArgs s_NoPaper____init___) (defBody s_NoPaper____init___) (defScope s_NoPaper____init___) .none kV_NoPaper____init__ dc_NoPaper____init__ pm_NoPaper____init__ an_NoPaper____init__ cd_NoPaper____init__ ct_NoPaper____init__), sl_NoPaper____init__⟩)
    (co_NoPaper____init__ : PySem.W.codeIn K cd_NoPaper____init__ "NoPaper.__init__" = true) (kp_NoPaper____init__ : PySem.W.keepIn K (.ref a_NoPaper____init__) = true)
    {a_is_whole : Addr} {od_is_whole an_is_whole : Option Addr} {sl_is_whole : Array (Option Value)} {oc_is_whole kV_is_whole dc_is_whole pm_is_whole cd_is_whole ct_is_whole : Value}
    (ad_is_whole : PySem.W.nsIn K mainGlobals "is_whole" = some (some (.ref a_is_whole)))
    (lo_is_whole : K.lookup a_is_whole = some ⟨oc_is_whole, od_is_whole, .func (PySem.W.fnOf "is_whole" "is_whole" (defArgs s_is_whole_) (defBody s_is_whole_) (defScope s_is_whole_) .none kV_is_whole dc_is_whole pm_is_whole an_is_whole cd_is_whole ct_is_whole), sl_is_whole⟩)
    (co_is_whole : PySem.W.codeIn K cd_is_whole "is_whole" = true) (kp_is_whole : PySem.W.keepIn K (.ref a_is_whole) = true)
    {a_is_within : Addr} {od_is_within an_is_within : Option Addr} {sl_is_within : Array (Option Value)} {oc_is_within kV_is_within dc_is_within pm_is_within cd_is_within ct_is_within : Value}
    (ad_is_within : PySem.W.nsIn K mainGlobals "is_within" = some (some (.ref a_is_within)))
    (lo_is_within : K.lookup a_is_within = some ⟨oc_is_within, od_is_within, .func (PySem.W.fnOf "is_within" "is_within" (defArgs s_is_within_) (defBody s_is_within_) (defScope s_is_within_) .none kV_is_within dc_is_within pm_is_within an_is_within cd_is_within ct_is_within), sl_is_within⟩)
    (co_is_within : PySem.W.codeIn K cd_is_within "is_within" = true) (kp_is_within : PySem.W.keepIn K (.ref a_is_within) = true)
    {a_drives_of : Addr} {od_drives_of an_drives_of : Option Addr} {sl_drives_of : Array (Option Value)} {oc_drives_of kV_drives_of dc_drives_of pm_drives_of cd_drives_of ct_drives_of : Value}
    (ad_drives_of : PySem.W.nsIn K mainGlobals "drives_of" = some (some (.ref a_drives_of)))
    (lo_drives_of : K.lookup a_drives_of = some ⟨oc_drives_of, od_drives_of, .func (PySem.W.fnOf "drives_of" "drives_of" (defArgs s_drives_of_) (defBody s_drives_of_) (defScope s_drives_of_) .none kV_drives_of dc_drives_of pm_drives_of an_drives_of cd_drives_of ct_drives_of), sl_drives_of⟩)
    (co_drives_of : PySem.W.codeIn K cd_drives_of "drives_of" = true) (kp_drives_of : PySem.W.keepIn K (.ref a_drives_of) = true)
    {a_is_steep : Addr} {od_is_steep an_is_steep : Option Addr} {sl_is_steep : Array (Option Value)} {oc_is_steep kV_is_steep dc_is_steep pm_is_steep cd_is_steep ct_is_steep : Value}
    (ad_is_steep : PySem.W.nsIn K mainGlobals "is_steep" = some (some (.ref a_is_steep)))
    (lo_is_steep : K.lookup a_is_steep = some ⟨oc_is_steep, od_is_steep, .func (PySem.W.fnOf "is_steep" "is_steep" (defArgs s_is_steep_) (defBody s_is_steep_) (defScope s_is_steep_) .none kV_is_steep dc_is_steep pm_is_steep an_is_steep cd_is_steep ct_is_steep), sl_is_steep⟩)
    (co_is_steep : PySem.W.codeIn K cd_is_steep "is_steep" = true) (kp_is_steep : PySem.W.keepIn K (.ref a_is_steep) = true)
    {a__least_minutes : Addr} {od__least_minutes an__least_minutes : Option Addr} {sl__least_minutes : Array (Option Value)} {oc__least_minutes kV__least_minutes dc__least_minutes pm__least_minutes cd__least_minutes ct__least_minutes : Value}
    (ad__least_minutes : PySem.W.nsIn K mainGlobals "_least_minutes" = some (some (.ref a__least_minutes)))
    (lo__least_minutes : K.lookup a__least_minutes = some ⟨oc__least_minutes, od__least_minutes, .func (PySem.W.fnOf "_least_minutes" "_least_minutes" (defArgs s__least_minutes_) (defBody s__least_minutes_) (defScope s__least_minutes_) .none kV__least_minutes dc__least_minutes pm__least_minutes an__least_minutes cd__least_minutes ct__least_minutes), sl__least_minutes⟩)
    (co__least_minutes : PySem.W.codeIn K cd__least_minutes "_least_minutes" = true) (kp__least_minutes : PySem.W.keepIn K (.ref a__least_minutes) = true)
    {a_chart_of : Addr} {od_chart_of an_chart_of : Option Addr} {sl_chart_of : Array (Option Value)} {oc_chart_of kV_chart_of dc_chart_of pm_chart_of cd_chart_of ct_chart_of : Value}
    (ad_chart_of : PySem.W.nsIn K mainGlobals "chart_of" = some (some (.ref a_chart_of)))
    (lo_chart_of : K.lookup a_chart_of = some ⟨oc_chart_of, od_chart_of, .func (PySem.W.fnOf "chart_of" "chart_of" (defArgs s_chart_of_) (defBody s_chart_of_) (defScope s_chart_of_) .none kV_chart_of dc_chart_of pm_chart_of an_chart_of cd_chart_of ct_chart_of), sl_chart_of⟩)
    (co_chart_of : PySem.W.codeIn K cd_chart_of "chart_of" = true) (kp_chart_of : PySem.W.keepIn K (.ref a_chart_of) = true)
    {a_is_least : Addr} {od_is_least an_is_least : Option Addr} {sl_is_least : Array (Option Value)} {oc_is_least kV_is_least dc_is_least pm_is_least cd_is_least ct_is_least : Value}
    (ad_is_least : PySem.W.nsIn K mainGlobals "is_least" = some (some (.ref a_is_least)))
    (lo_is_least : K.lookup a_is_least = some ⟨oc_is_least, od_is_least, .func (PySem.W.fnOf "is_least" "is_least" (defArgs s_is_least_) (defBody s_is_least_) (defScope s_is_least_) .none kV_is_least dc_is_least pm_is_least an_is_least cd_is_least ct_is_least), sl_is_least⟩)
    (co_is_least : PySem.W.codeIn K cd_is_least "is_least" = true) (kp_is_least : PySem.W.keepIn K (.ref a_is_least) = true)
    {a_first_road : Addr} {od_first_road an_first_road : Option Addr} {sl_first_road : Array (Option Value)} {oc_first_road kV_first_road dc_first_road pm_first_road cd_first_road ct_first_road : Value}
    (ad_first_road : PySem.W.nsIn K mainGlobals "first_road" = some (some (.ref a_first_road)))
    (lo_first_road : K.lookup a_first_road = some ⟨oc_first_road, od_first_road, .func (PySem.W.fnOf "first_road" "first_road" (defArgs s_first_road_) (defBody s_first_road_) (defScope s_first_road_) .none kV_first_road dc_first_road pm_first_road an_first_road cd_first_road ct_first_road), sl_first_road⟩)
    (co_first_road : PySem.W.codeIn K cd_first_road "first_road" = true) (kp_first_road : PySem.W.keepIn K (.ref a_first_road) = true)
    {a_led_to : Addr} {od_led_to an_led_to : Option Addr} {sl_led_to : Array (Option Value)} {oc_led_to kV_led_to dc_led_to pm_led_to cd_led_to ct_led_to : Value}
    (ad_led_to : PySem.W.nsIn K mainGlobals "led_to" = some (some (.ref a_led_to)))
    (lo_led_to : K.lookup a_led_to = some ⟨oc_led_to, od_led_to, .func (PySem.W.fnOf "led_to" "led_to" (defArgs s_led_to_) (defBody s_led_to_) (defScope s_led_to_) .none kV_led_to dc_led_to pm_led_to an_led_to cd_led_to ct_led_to), sl_led_to⟩)
    (co_led_to : PySem.W.codeIn K cd_led_to "led_to" = true) (kp_led_to : PySem.W.keepIn K (.ref a_led_to) = true)
    {a_way : Addr} {od_way an_way : Option Addr} {sl_way : Array (Option Value)} {oc_way kV_way dc_way pm_way cd_way ct_way : Value}
    (ad_way : PySem.W.nsIn K mainGlobals "way" = some (some (.ref a_way)))
    (lo_way : K.lookup a_way = some ⟨oc_way, od_way, .func (PySem.W.fnOf "way" "way" (defArgs s_way_) (defBody s_way_) (defScope s_way_) .none kV_way dc_way pm_way an_way cd_way ct_way), sl_way⟩)
    (co_way : PySem.W.codeIn K cd_way "way" = true) (kp_way : PySem.W.keepIn K (.ref a_way) = true)
    {a_is_way : Addr} {od_is_way an_is_way : Option Addr} {sl_is_way : Array (Option Value)} {oc_is_way kV_is_way dc_is_way pm_is_way cd_is_way ct_is_way : Value}
    (ad_is_way : PySem.W.nsIn K mainGlobals "is_way" = some (some (.ref a_is_way)))
    (lo_is_way : K.lookup a_is_way = some ⟨oc_is_way, od_is_way, .func (PySem.W.fnOf "is_way" "is_way" (defArgs s_is_way_) (defBody s_is_way_) (defScope s_is_way_) .none kV_is_way dc_is_way pm_is_way an_is_way cd_is_way ct_is_way), sl_is_way⟩)
    (co_is_way : PySem.W.codeIn K cd_is_way "is_way" = true) (kp_is_way : PySem.W.keepIn K (.ref a_is_way) = true)
    {a_minutes_of : Addr} {od_minutes_of an_minutes_of : Option Addr} {sl_minutes_of : Array (Option Value)} {oc_minutes_of kV_minutes_of dc_minutes_of pm_minutes_of cd_minutes_of ct_minutes_of : Value}
    (ad_minutes_of : PySem.W.nsIn K mainGlobals "minutes_of" = some (some (.ref a_minutes_of)))
    (lo_minutes_of : K.lookup a_minutes_of = some ⟨oc_minutes_of, od_minutes_of, .func (PySem.W.fnOf "minutes_of" "minutes_of" (defArgs s_minutes_of_) (defBody s_minutes_of_) (defScope s_minutes_of_) .none kV_minutes_of dc_minutes_of pm_minutes_of an_minutes_of cd_minutes_of ct_minutes_of), sl_minutes_of⟩)
    (co_minutes_of : PySem.W.codeIn K cd_minutes_of "minutes_of" = true) (kp_minutes_of : PySem.W.keepIn K (.ref a_minutes_of) = true)
    {a__is_row tc__is_row P__is_row : Addr} {od__is_row an__is_row : Option Addr} {sl__is_row : Array (Option Value)} {oc__is_row kV__is_row dc__is_row pm__is_row ct__is_row : Value}
    (ad__is_row : PySem.W.nsIn K mainGlobals "_is_row" = some (some (.ref a__is_row)))
    (lo__is_row : K.lookup a__is_row = some ⟨oc__is_row, od__is_row, .func (PySem.W.fnOf "_is_row" "_is_row" (defArgs s__is_row_) (defBody s__is_row_) (defScope s__is_row_) .none kV__is_row dc__is_row pm__is_row an__is_row (.ref tc__is_row) ct__is_row), sl__is_row⟩)
    (co__is_row : PySem.W.codeIn K (.ref tc__is_row) "_is_row" = true) (kp__is_row : PySem.W.keepIn K (.ref a__is_row) = true)
    (tb__is_row : tabIn K tc__is_row = some P__is_row) (re__is_row : ((recsOf q).any fun e => e.name == "_is_row") = true)
    {a__has_shape tc__has_shape P__has_shape : Addr} {od__has_shape an__has_shape : Option Addr} {sl__has_shape : Array (Option Value)} {oc__has_shape kV__has_shape dc__has_shape pm__has_shape ct__has_shape : Value}
    (ad__has_shape : PySem.W.nsIn K mainGlobals "_has_shape" = some (some (.ref a__has_shape)))
    (lo__has_shape : K.lookup a__has_shape = some ⟨oc__has_shape, od__has_shape, .func (PySem.W.fnOf "_has_shape" "_has_shape" (defArgs s__has_shape_) (defBody s__has_shape_) (defScope s__has_shape_) .none kV__has_shape dc__has_shape pm__has_shape an__has_shape (.ref tc__has_shape) ct__has_shape), sl__has_shape⟩)
    (co__has_shape : PySem.W.codeIn K (.ref tc__has_shape) "_has_shape" = true) (kp__has_shape : PySem.W.keepIn K (.ref a__has_shape) = true)
    (tb__has_shape : tabIn K tc__has_shape = some P__has_shape) (re__has_shape : ((recsOf q).any fun e => e.name == "_has_shape") = true)
    {a__leads_on tc__leads_on P__leads_on : Addr} {od__leads_on an__leads_on : Option Addr} {sl__leads_on : Array (Option Value)} {oc__leads_on kV__leads_on dc__leads_on pm__leads_on ct__leads_on : Value}
    (ad__leads_on : PySem.W.nsIn K mainGlobals "_leads_on" = some (some (.ref a__leads_on)))
    (lo__leads_on : K.lookup a__leads_on = some ⟨oc__leads_on, od__leads_on, .func (PySem.W.fnOf "_leads_on" "_leads_on" (defArgs s__leads_on_) (defBody s__leads_on_) (defScope s__leads_on_) .none kV__leads_on dc__leads_on pm__leads_on an__leads_on (.ref tc__leads_on) ct__leads_on), sl__leads_on⟩)
    (co__leads_on : PySem.W.codeIn K (.ref tc__leads_on) "_leads_on" = true) (kp__leads_on : PySem.W.keepIn K (.ref a__leads_on) = true)
    (tb__leads_on : tabIn K tc__leads_on = some P__leads_on) (re__leads_on : ((recsOf q).any fun e => e.name == "_leads_on") = true)
    {a__is_slack : Addr} {od__is_slack an__is_slack : Option Addr} {sl__is_slack : Array (Option Value)} {oc__is_slack kV__is_slack dc__is_slack pm__is_slack cd__is_slack ct__is_slack : Value}
    (ad__is_slack : PySem.W.nsIn K mainGlobals "_is_slack" = some (some (.ref a__is_slack)))
    (lo__is_slack : K.lookup a__is_slack = some ⟨oc__is_slack, od__is_slack, .func (PySem.W.fnOf "_is_slack" "_is_slack" (defArgs s__is_slack_) (defBody s__is_slack_) (defScope s__is_slack_) .none kV__is_slack dc__is_slack pm__is_slack an__is_slack cd__is_slack ct__is_slack), sl__is_slack⟩)
    (co__is_slack : PySem.W.codeIn K cd__is_slack "_is_slack" = true) (kp__is_slack : PySem.W.keepIn K (.ref a__is_slack) = true)
    {a_lets_chart tc_lets_chart P_lets_chart : Addr} {od_lets_chart an_lets_chart : Option Addr} {sl_lets_chart : Array (Option Value)} {oc_lets_chart kV_lets_chart dc_lets_chart pm_lets_chart ct_lets_chart : Value}
    (ad_lets_chart : PySem.W.nsIn K mainGlobals "lets_chart" = some (some (.ref a_lets_chart)))
    (lo_lets_chart : K.lookup a_lets_chart = some ⟨oc_lets_chart, od_lets_chart, .func (PySem.W.fnOf "lets_chart" "lets_chart" (defArgs s_lets_chart_) (defBody s_lets_chart_) (defScope s_lets_chart_) .none kV_lets_chart dc_lets_chart pm_lets_chart an_lets_chart (.ref tc_lets_chart) ct_lets_chart), sl_lets_chart⟩)
    (co_lets_chart : PySem.W.codeIn K (.ref tc_lets_chart) "lets_chart" = true) (kp_lets_chart : PySem.W.keepIn K (.ref a_lets_chart) = true)
    (tb_lets_chart : tabIn K tc_lets_chart = some P_lets_chart) (re_lets_chart : ((recsOf q).any fun e => e.name == "lets_chart") = true)
    {a__law_cell_at : Addr} {od__law_cell_at an__law_cell_at : Option Addr} {sl__law_cell_at : Array (Option Value)} {oc__law_cell_at kV__law_cell_at dc__law_cell_at pm__law_cell_at cd__law_cell_at ct__law_cell_at : Value}
    (ad__law_cell_at : PySem.W.nsIn K mainGlobals "_law_cell_at" = some (some (.ref a__law_cell_at)))
    (lo__law_cell_at : K.lookup a__law_cell_at = some ⟨oc__law_cell_at, od__law_cell_at, .func (PySem.W.fnOf "_law_cell_at" "_law_cell_at" (defArgs s__law_cell_at_) (defBody s__law_cell_at_) (defScope s__law_cell_at_) .none kV__law_cell_at dc__law_cell_at pm__law_cell_at an__law_cell_at cd__law_cell_at ct__law_cell_at), sl__law_cell_at⟩)
    (co__law_cell_at : PySem.W.codeIn K cd__law_cell_at "_law_cell_at" = true) (kp__law_cell_at : PySem.W.keepIn K (.ref a__law_cell_at) = true)
    {a__law_row : Addr} {od__law_row an__law_row : Option Addr} {sl__law_row : Array (Option Value)} {oc__law_row kV__law_row dc__law_row pm__law_row cd__law_row ct__law_row : Value}
    (ad__law_row : PySem.W.nsIn K mainGlobals "_law_row" = some (some (.ref a__law_row)))
    (lo__law_row : K.lookup a__law_row = some ⟨oc__law_row, od__law_row, .func (PySem.W.fnOf "_law_row" "_law_row" (defArgs s__law_row_) (defBody s__law_row_) (defScope s__law_row_) .none kV__law_row dc__law_row pm__law_row an__law_row cd__law_row ct__law_row), sl__law_row⟩)
    (co__law_row : PySem.W.codeIn K cd__law_row "_law_row" = true) (kp__law_row : PySem.W.keepIn K (.ref a__law_row) = true)
    {a__law_names : Addr} {od__law_names an__law_names : Option Addr} {sl__law_names : Array (Option Value)} {oc__law_names kV__law_names dc__law_names pm__law_names cd__law_names ct__law_names : Value}
    (ad__law_names : PySem.W.nsIn K mainGlobals "_law_names" = some (some (.ref a__law_names)))
    (lo__law_names : K.lookup a__law_names = some ⟨oc__law_names, od__law_names, .func (PySem.W.fnOf "_law_names" "_law_names" (defArgs s__law_names_) (defBody s__law_names_) (defScope s__law_names_) .none kV__law_names dc__law_names pm__law_names an__law_names cd__law_names ct__law_names), sl__law_names⟩)
    (co__law_names : PySem.W.codeIn K cd__law_names "_law_names" = true) (kp__law_names : PySem.W.keepIn K (.ref a__law_names) = true)
    {a__law_road : Addr} {od__law_road an__law_road : Option Addr} {sl__law_road : Array (Option Value)} {oc__law_road kV__law_road dc__law_road pm__law_road cd__law_road ct__law_road : Value}
    (ad__law_road : PySem.W.nsIn K mainGlobals "_law_road" = some (some (.ref a__law_road)))
    (lo__law_road : K.lookup a__law_road = some ⟨oc__law_road, od__law_road, .func (PySem.W.fnOf "_law_road" "_law_road" (defArgs s__law_road_) (defBody s__law_road_) (defScope s__law_road_) .none kV__law_road dc__law_road pm__law_road an__law_road cd__law_road ct__law_road), sl__law_road⟩)
    (co__law_road : PySem.W.codeIn K cd__law_road "_law_road" = true) (kp__law_road : PySem.W.keepIn K (.ref a__law_road) = true)
    {a__law_town : Addr} {od__law_town an__law_town : Option Addr} {sl__law_town : Array (Option Value)} {oc__law_town kV__law_town dc__law_town pm__law_town cd__law_town ct__law_town : Value}
    (ad__law_town : PySem.W.nsIn K mainGlobals "_law_town" = some (some (.ref a__law_town)))
    (lo__law_town : K.lookup a__law_town = some ⟨oc__law_town, od__law_town, .func (PySem.W.fnOf "_law_town" "_law_town" (defArgs s__law_town_) (defBody s__law_town_) (defScope s__law_town_) .none kV__law_town dc__law_town pm__law_town an__law_town cd__law_town ct__law_town), sl__law_town⟩)
    (co__law_town : PySem.W.codeIn K cd__law_town "_law_town" = true) (kp__law_town : PySem.W.keepIn K (.ref a__law_town) = true)
    {a__law_shut : Addr} {od__law_shut an__law_shut : Option Addr} {sl__law_shut : Array (Option Value)} {oc__law_shut kV__law_shut dc__law_shut pm__law_shut cd__law_shut ct__law_shut : Value}
    (ad__law_shut : PySem.W.nsIn K mainGlobals "_law_shut" = some (some (.ref a__law_shut)))
    (lo__law_shut : K.lookup a__law_shut = some ⟨oc__law_shut, od__law_shut, .func (PySem.W.fnOf "_law_shut" "_law_shut" (defArgs s__law_shut_) (defBody s__law_shut_) (defScope s__law_shut_) .none kV__law_shut dc__law_shut pm__law_shut an__law_shut cd__law_shut ct__law_shut), sl__law_shut⟩)
    (co__law_shut : PySem.W.codeIn K cd__law_shut "_law_shut" = true) (kp__law_shut : PySem.W.keepIn K (.ref a__law_shut) = true)
    {a__law_steps : Addr} {od__law_steps an__law_steps : Option Addr} {sl__law_steps : Array (Option Value)} {oc__law_steps kV__law_steps dc__law_steps pm__law_steps cd__law_steps ct__law_steps : Value}
    (ad__law_steps : PySem.W.nsIn K mainGlobals "_law_steps" = some (some (.ref a__law_steps)))
    (lo__law_steps : K.lookup a__law_steps = some ⟨oc__law_steps, od__law_steps, .func (PySem.W.fnOf "_law_steps" "_law_steps" (defArgs s__law_steps_) (defBody s__law_steps_) (defScope s__law_steps_) .none kV__law_steps dc__law_steps pm__law_steps an__law_steps cd__law_steps ct__law_steps), sl__law_steps⟩)
    (co__law_steps : PySem.W.codeIn K cd__law_steps "_law_steps" = true) (kp__law_steps : PySem.W.keepIn K (.ref a__law_steps) = true)
    {a__law_chart : Addr} {od__law_chart an__law_chart : Option Addr} {sl__law_chart : Array (Option Value)} {oc__law_chart kV__law_chart dc__law_chart pm__law_chart cd__law_chart ct__law_chart : Value}
    (ad__law_chart : PySem.W.nsIn K mainGlobals "_law_chart" = some (some (.ref a__law_chart)))
    (lo__law_chart : K.lookup a__law_chart = some ⟨oc__law_chart, od__law_chart, .func (PySem.W.fnOf "_law_chart" "_law_chart" (defArgs s__law_chart_) (defBody s__law_chart_) (defScope s__law_chart_) .none kV__law_chart dc__law_chart pm__law_chart an__law_chart cd__law_chart ct__law_chart), sl__law_chart⟩)
    (co__law_chart : PySem.W.codeIn K cd__law_chart "_law_chart" = true) (kp__law_chart : PySem.W.keepIn K (.ref a__law_chart) = true)
    {a__law_verdict : Addr} {od__law_verdict an__law_verdict : Option Addr} {sl__law_verdict : Array (Option Value)} {oc__law_verdict kV__law_verdict dc__law_verdict pm__law_verdict cd__law_verdict ct__law_verdict : Value}
    (ad__law_verdict : PySem.W.nsIn K mainGlobals "_law_verdict" = some (some (.ref a__law_verdict)))
    (lo__law_verdict : K.lookup a__law_verdict = some ⟨oc__law_verdict, od__law_verdict, .func (PySem.W.fnOf "_law_verdict" "_law_verdict" (defArgs s__law_verdict_) (defBody s__law_verdict_) (defScope s__law_verdict_) .none kV__law_verdict dc__law_verdict pm__law_verdict an__law_verdict cd__law_verdict ct__law_verdict), sl__law_verdict⟩)
    (co__law_verdict : PySem.W.codeIn K cd__law_verdict "_law_verdict" = true) (kp__law_verdict : PySem.W.keepIn K (.ref a__law_verdict) = true)
    {a__law_told : Addr} {od__law_told an__law_told : Option Addr} {sl__law_told : Array (Option Value)} {oc__law_told kV__law_told dc__law_told pm__law_told cd__law_told ct__law_told : Value}
    (ad__law_told : PySem.W.nsIn K mainGlobals "_law_told" = some (some (.ref a__law_told)))
    (lo__law_told : K.lookup a__law_told = some ⟨oc__law_told, od__law_told, .func (PySem.W.fnOf "_law_told" "_law_told" (defArgs s__law_told_) (defBody s__law_told_) (defScope s__law_told_) .none kV__law_told dc__law_told pm__law_told an__law_told cd__law_told ct__law_told), sl__law_told⟩)
    (co__law_told : PySem.W.codeIn K cd__law_told "_law_told" = true) (kp__law_told : PySem.W.keepIn K (.ref a__law_told) = true)
    {a__law_twin : Addr} {od__law_twin an__law_twin : Option Addr} {sl__law_twin : Array (Option Value)} {oc__law_twin kV__law_twin dc__law_twin pm__law_twin cd__law_twin ct__law_twin : Value}
    (ad__law_twin : PySem.W.nsIn K mainGlobals "_law_twin" = some (some (.ref a__law_twin)))
    (lo__law_twin : K.lookup a__law_twin = some ⟨oc__law_twin, od__law_twin, .func (PySem.W.fnOf "_law_twin" "_law_twin" (defArgs s__law_twin_) (defBody s__law_twin_) (defScope s__law_twin_) .none kV__law_twin dc__law_twin pm__law_twin an__law_twin cd__law_twin ct__law_twin), sl__law_twin⟩)
    (co__law_twin : PySem.W.codeIn K cd__law_twin "_law_twin" = true) (kp__law_twin : PySem.W.keepIn K (.ref a__law_twin) = true)
    {a__law_first : Addr} {od__law_first an__law_first : Option Addr} {sl__law_first : Array (Option Value)} {oc__law_first kV__law_first dc__law_first pm__law_first cd__law_first ct__law_first : Value}
    (ad__law_first : PySem.W.nsIn K mainGlobals "_law_first" = some (some (.ref a__law_first)))
    (lo__law_first : K.lookup a__law_first = some ⟨oc__law_first, od__law_first, .func (PySem.W.fnOf "_law_first" "_law_first" (defArgs s__law_first_) (defBody s__law_first_) (defScope s__law_first_) .none kV__law_first dc__law_first pm__law_first an__law_first cd__law_first ct__law_first), sl__law_first⟩)
    (co__law_first : PySem.W.codeIn K cd__law_first "_law_first" = true) (kp__law_first : PySem.W.keepIn K (.ref a__law_first) = true)
    {a__law_way : Addr} {od__law_way an__law_way : Option Addr} {sl__law_way : Array (Option Value)} {oc__law_way kV__law_way dc__law_way pm__law_way cd__law_way ct__law_way : Value}
    (ad__law_way : PySem.W.nsIn K mainGlobals "_law_way" = some (some (.ref a__law_way)))
    (lo__law_way : K.lookup a__law_way = some ⟨oc__law_way, od__law_way, .func (PySem.W.fnOf "_law_way" "_law_way" (defArgs s__law_way_) (defBody s__law_way_) (defScope s__law_way_) .none kV__law_way dc__law_way pm__law_way an__law_way cd__law_way ct__law_way), sl__law_way⟩)
    (co__law_way : PySem.W.codeIn K cd__law_way "_law_way" = true) (kp__law_way : PySem.W.keepIn K (.ref a__law_way) = true)
    {a__law_leads : Addr} {od__law_leads an__law_leads : Option Addr} {sl__law_leads : Array (Option Value)} {oc__law_leads kV__law_leads dc__law_leads pm__law_leads cd__law_leads ct__law_leads : Value}
    (ad__law_leads : PySem.W.nsIn K mainGlobals "_law_leads" = some (some (.ref a__law_leads)))
    (lo__law_leads : K.lookup a__law_leads = some ⟨oc__law_leads, od__law_leads, .func (PySem.W.fnOf "_law_leads" "_law_leads" (defArgs s__law_leads_) (defBody s__law_leads_) (defScope s__law_leads_) .none kV__law_leads dc__law_leads pm__law_leads an__law_leads cd__law_leads ct__law_leads), sl__law_leads⟩)
    (co__law_leads : PySem.W.codeIn K cd__law_leads "_law_leads" = true) (kp__law_leads : PySem.W.keepIn K (.ref a__law_leads) = true)
    {a__law_pair : Addr} {od__law_pair an__law_pair : Option Addr} {sl__law_pair : Array (Option Value)} {oc__law_pair kV__law_pair dc__law_pair pm__law_pair cd__law_pair ct__law_pair : Value}
    (ad__law_pair : PySem.W.nsIn K mainGlobals "_law_pair" = some (some (.ref a__law_pair)))
    (lo__law_pair : K.lookup a__law_pair = some ⟨oc__law_pair, od__law_pair, .func (PySem.W.fnOf "_law_pair" "_law_pair" (defArgs s__law_pair_) (defBody s__law_pair_) (defScope s__law_pair_) .none kV__law_pair dc__law_pair pm__law_pair an__law_pair cd__law_pair ct__law_pair), sl__law_pair⟩)
    (co__law_pair : PySem.W.codeIn K cd__law_pair "_law_pair" = true) (kp__law_pair : PySem.W.keepIn K (.ref a__law_pair) = true)
    {a__law_lined : Addr} {od__law_lined an__law_lined : Option Addr} {sl__law_lined : Array (Option Value)} {oc__law_lined kV__law_lined dc__law_lined pm__law_lined cd__law_lined ct__law_lined : Value}
    (ad__law_lined : PySem.W.nsIn K mainGlobals "_law_lined" = some (some (.ref a__law_lined)))
    (lo__law_lined : K.lookup a__law_lined = some ⟨oc__law_lined, od__law_lined, .func (PySem.W.fnOf "_law_lined" "_law_lined" (defArgs s__law_lined_) (defBody s__law_lined_) (defScope s__law_lined_) .none kV__law_lined dc__law_lined pm__law_lined an__law_lined cd__law_lined ct__law_lined), sl__law_lined⟩)
    (co__law_lined : PySem.W.codeIn K cd__law_lined "_law_lined" = true) (kp__law_lined : PySem.W.keepIn K (.ref a__law_lined) = true)
    {a_law : Addr} {od_law an_law : Option Addr} {sl_law : Array (Option Value)} {oc_law kV_law dc_law pm_law cd_law ct_law : Value}
    (ad_law : PySem.W.nsIn K mainGlobals "law" = some (some (.ref a_law)))
    (lo_law : K.lookup a_law = some ⟨oc_law, od_law, .func (PySem.W.fnOf "law" "law" (defArgs s_law_) (defBody s_law_) (defScope s_law_) .none kV_law dc_law pm_law an_law cd_law ct_law), sl_law⟩)
    (co_law : PySem.W.codeIn K cd_law "law" = true) (kp_law : PySem.W.keepIn K (.ref a_law) = true)
    (no_isinstance : PySem.W.nsIn K mainGlobals "isinstance" = some none)
    (no_int : PySem.W.nsIn K mainGlobals "int" = some none)
    (no_bool : PySem.W.nsIn K mainGlobals "bool" = some none)
    (no_enumerate : PySem.W.nsIn K mainGlobals "enumerate" = some none)
    (no_range : PySem.W.nsIn K mainGlobals "range" = some none)
    (no_tuple : PySem.W.nsIn K mainGlobals "tuple" = some none)
    (no_len : PySem.W.nsIn K mainGlobals "len" = some none)
    (no_all : PySem.W.nsIn K mainGlobals "all" = some none)
    (no_any : PySem.W.nsIn K mainGlobals "any" = some none)
    (no_abs : PySem.W.nsIn K mainGlobals "abs" = some none)
    (no_min : PySem.W.nsIn K mainGlobals "min" = some none)
    (no_ValueError : PySem.W.nsIn K mainGlobals "ValueError" = some none)
    (no_list : PySem.W.nsIn K mainGlobals "list" = some none)
    (no_reversed : PySem.W.nsIn K mainGlobals "reversed" = some none)
    : ∃ (fd : FuncData) (ts : List (Str × Addr × Addr)), (∀ t ∈ ts, TabDef q K mg t) ∧ (∀ (s : Shared) (u : Value), BindsTo s fd ⟨[u], []⟩ [("script", u)]) ∧ ∀ b : Heap, K.In b → b.Ns mainGlobals mg → (∀ t ∈ ts, GxR.TabB b mg t.2.1 t.2.2) → Keeps P w K mg b CX0 11 fa fd ["script"] (spLaw K (ts.map fun t => t.2.2)) := by
  have e := hfa.symm.trans (PySem.W.mg_of X G ad_law)
  cases e
  have f_NoPaper____init__ := fun_mk (st := s_NoPaper____init___) lo_NoPaper____init__ co_NoPaper____init__ kp_NoPaper____init__
  have F_NoPaper____init__ : FnM K "__init__" "NoPaper.__init__" s_NoPaper____init___ _ _ ["self", "word", "at"] := ⟨f_NoPaper____init__, f_NoPaper____init__.binds (ps := ["self", "word", "at"]) fun _ _ _ _ _ _ us hl => match us, hl with | [_, _, _], _ => rfl⟩
  have f_is_whole := fun_mk (st := s_is_whole_) lo_is_whole co_is_whole kp_is_whole
  have F_is_whole : Fn K mg "is_whole" s_is_whole_ _ _ ["thing"] := ⟨f_is_whole, PySem.W.mg_of X G ad_is_whole, f_is_whole.binds (ps := ["thing"]) fun _ _ _ _ _ _ us hl => match us, hl with | [_], _ => rfl⟩
  have f_is_within := fun_mk (st := s_is_within_) lo_is_within co_is_within kp_is_within
  have F_is_within : Fn K mg "is_within" s_is_within_ _ _ ["thing", "least", "most"] := ⟨f_is_within, PySem.W.mg_of X G ad_is_within, f_is_within.binds (ps := ["thing", "least", "most"]) fun _ _ _ _ _ _ us hl => match us, hl with | [_, _, _], _ => rfl⟩
  have f_drives_of := fun_mk (st := s_drives_of_) lo_drives_of co_drives_of kp_drives_of
  have F_drives_of : Fn K mg "drives_of" s_drives_of_ _ _ ["town", "shut"] := ⟨f_drives_of, PySem.W.mg_of X G ad_drives_of, f_drives_of.binds (ps := ["town", "shut"]) fun _ _ _ _ _ _ us hl => match us, hl with | [_, _], _ => rfl⟩
  have f_is_steep := fun_mk (st := s_is_steep_) lo_is_steep co_is_steep kp_is_steep
  have F_is_steep : Fn K mg "is_steep" s_is_steep_ _ _ ["row", "drive"] := ⟨f_is_steep, PySem.W.mg_of X G ad_is_steep, f_is_steep.binds (ps := ["row", "drive"]) fun _ _ _ _ _ _ us hl => match us, hl with | [_, _], _ => rfl⟩
  have f__least_minutes := fun_mk (st := s__least_minutes_) lo__least_minutes co__least_minutes kp__least_minutes
  have F__least_minutes : Fn K mg "_least_minutes" s__least_minutes_ _ _ ["drives", "many", "goal"] := ⟨f__least_minutes, PySem.W.mg_of X G ad__least_minutes, f__least_minutes.binds (ps := ["drives", "many", "goal"]) fun _ _ _ _ _ _ us hl => match us, hl with | [_, _, _], _ => rfl⟩
  have f_chart_of := fun_mk (st := s_chart_of_) lo_chart_of co_chart_of kp_chart_of
  have F_chart_of : Fn K mg "chart_of" s_chart_of_ _ _ ["town", "shut"] := ⟨f_chart_of, PySem.W.mg_of X G ad_chart_of, f_chart_of.binds (ps := ["town", "shut"]) fun _ _ _ _ _ _ us hl => match us, hl with | [_, _], _ => rfl⟩
  have f_is_least := fun_mk (st := s_is_least_) lo_is_least co_is_least kp_is_least
  have F_is_least : Fn K mg "is_least" s_is_least_ _ _ ["row", "drive"] := ⟨f_is_least, PySem.W.mg_of X G ad_is_least, f_is_least.binds (ps := ["row", "drive"]) fun _ _ _ _ _ _ us hl => match us, hl with | [_, _], _ => rfl⟩
  have f_first_road := fun_mk (st := s_first_road_) lo_first_road co_first_road kp_first_road
  have F_first_road : Fn K mg "first_road" s_first_road_ _ _ ["town", "shut", "chart", "one", "other"] := ⟨f_first_road, PySem.W.mg_of X G ad_first_road, f_first_road.binds (ps := ["town", "shut", "chart", "one", "other"]) fun _ _ _ _ _ _ us hl => match us, hl with | [_, _, _, _, _], _ => rfl⟩
  have f_led_to := fun_mk (st := s_led_to_) lo_led_to co_led_to kp_led_to
  have F_led_to : Fn K mg "led_to" s_led_to_ _ _ ["town", "number", "place"] := ⟨f_led_to, PySem.W.mg_of X G ad_led_to, f_led_to.binds (ps := ["town", "number", "place"]) fun _ _ _ _ _ _ us hl => match us, hl with | [_, _, _], _ => rfl⟩
  have f_way := fun_mk (st := s_way_) lo_way co_way kp_way
  have F_way : Fn K mg "way" s_way_ _ _ ["town", "shut", "one", "other"] := ⟨f_way, PySem.W.mg_of X G ad_way, f_way.binds (ps := ["town", "shut", "one", "other"]) fun _ _ _ _ _ _ us hl => match us, hl with | [_, _, _, _], _ => rfl⟩
  have f_is_way := fun_mk (st := s_is_way_) lo_is_way co_is_way kp_is_way
  have F_is_way : Fn K mg "is_way" s_is_way_ _ _ ["town", "shut", "one", "other", "thing"] := ⟨f_is_way, PySem.W.mg_of X G ad_is_way, f_is_way.binds (ps := ["town", "shut", "one", "other", "thing"]) fun _ _ _ _ _ _ us hl => match us, hl with | [_, _, _, _, _], _ => rfl⟩
  have f_minutes_of := fun_mk (st := s_minutes_of_) lo_minutes_of co_minutes_of kp_minutes_of
  have F_minutes_of : Fn K mg "minutes_of" s_minutes_of_ _ _ ["town", "one", "roads"] := ⟨f_minutes_of, PySem.W.mg_of X G ad_minutes_of, f_minutes_of.binds (ps := ["town", "one", "roads"]) fun _ _ _ _ _ _ us hl => match us, hl with | [_, _, _], _ => rfl⟩
  have f__is_row := fun_mk (st := s__is_row_) lo__is_row co__is_row kp__is_row
  have F__is_row : Fn K mg "_is_row" s__is_row_ _ _ ["thing", "many"] := ⟨f__is_row, PySem.W.mg_of X G ad__is_row, f__is_row.binds (ps := ["thing", "many"]) fun _ _ _ _ _ _ us hl => match us, hl with | [_, _], _ => rfl⟩
  have f__has_shape := fun_mk (st := s__has_shape_) lo__has_shape co__has_shape kp__has_shape
  have F__has_shape : Fn K mg "_has_shape" s__has_shape_ _ _ ["thing", "many"] := ⟨f__has_shape, PySem.W.mg_of X G ad__has_shape, f__has_shape.binds (ps := ["thing", "many"]) fun _ _ _ _ _ _ us hl => match us, hl with | [_, _], _ => rfl⟩
  have f__leads_on := fun_mk (st := s__leads_on_) lo__leads_on co__leads_on kp__leads_on
  have F__leads_on : Fn K mg "_leads_on" s__leads_on_ _ _ ["row", "drives"] := ⟨f__leads_on, PySem.W.mg_of X G ad__leads_on, f__leads_on.binds (ps := ["row", "drives"]) fun _ _ _ _ _ _ us hl => match us, hl with | [_, _], _ => rfl⟩
  have f__is_slack := fun_mk (st := s__is_slack_) lo__is_slack co__is_slack kp__is_slack
  have F__is_slack : Fn K mg "_is_slack" s__is_slack_ _ _ ["drives", "chart", "place"] := ⟨f__is_slack, PySem.W.mg_of X G ad__is_slack, f__is_slack.binds (ps := ["drives", "chart", "place"]) fun _ _ _ _ _ _ us hl => match us, hl with | [_, _, _], _ => rfl⟩
  have f_lets_chart := fun_mk (st := s_lets_chart_) lo_lets_chart co_lets_chart kp_lets_chart
  have F_lets_chart : Fn K mg "lets_chart" s_lets_chart_ _ _ ["town", "shut", "thing"] := ⟨f_lets_chart, PySem.W.mg_of X G ad_lets_chart, f_lets_chart.binds (ps := ["town", "shut", "thing"]) fun _ _ _ _ _ _ us hl => match us, hl with | [_, _, _], _ => rfl⟩
  have f__law_cell_at := fun_mk (st := s__law_cell_at_) lo__law_cell_at co__law_cell_at kp__law_cell_at
  have F__law_cell_at : Fn K mg "_law_cell_at" s__law_cell_at_ _ _ ["script", "k"] := ⟨f__law_cell_at, PySem.W.mg_of X G ad__law_cell_at, f__law_cell_at.binds (ps := ["script", "k"]) fun _ _ _ _ _ _ us hl => match us, hl with | [_, _], _ => rfl⟩
  have f__law_row := fun_mk (st := s__law_row_) lo__law_row co__law_row kp__law_row
  have F__law_row : Fn K mg "_law_row" s__law_row_ _ _ ["cell", "many"] := ⟨f__law_row, PySem.W.mg_of X G ad__law_row, f__law_row.binds (ps := ["cell", "many"]) fun _ _ _ _ _ _ us hl => match us, hl with | [_, _], _ => rfl⟩
  have f__law_names := fun_mk (st := s__law_names_) lo__law_names co__law_names kp__law_names
  have F__law_names : Fn K mg "_law_names" s__law_names_ _ _ ["row", "many"] := ⟨f__law_names, PySem.W.mg_of X G ad__law_names, f__law_names.binds (ps := ["row", "many"]) fun _ _ _ _ _ _ us hl => match us, hl with | [_, _], _ => rfl⟩
  have f__law_road := fun_mk (st := s__law_road_) lo__law_road co__law_road kp__law_road
  have F__law_road : Fn K mg "_law_road" s__law_road_ _ _ ["row", "names"] := ⟨f__law_road, PySem.W.mg_of X G ad__law_road, f__law_road.binds (ps := ["row", "names"]) fun _ _ _ _ _ _ us hl => match us, hl with | [_, _], _ => rfl⟩
  have f__law_town := fun_mk (st := s__law_town_) lo__law_town co__law_town kp__law_town
  have F__law_town : Fn K mg "_law_town" s__law_town_ _ _ ["script", "start"] := ⟨f__law_town, PySem.W.mg_of X G ad__law_town, f__law_town.binds (ps := ["script", "start"]) fun _ _ _ _ _ _ us hl => match us, hl with | [_, _], _ => rfl⟩
  have f__law_shut := fun_mk (st := s__law_shut_) lo__law_shut co__law_shut kp__law_shut
  have F__law_shut : Fn K mg "_law_shut" s__law_shut_ _ _ ["cell", "town"] := ⟨f__law_shut, PySem.W.mg_of X G ad__law_shut, f__law_shut.binds (ps := ["cell", "town"]) fun _ _ _ _ _ _ us hl => match us, hl with | [_, _], _ => rfl⟩
  have f__law_steps := fun_mk (st := s__law_steps_) lo__law_steps co__law_steps kp__law_steps
  have F__law_steps : Fn K mg "_law_steps" s__law_steps_ _ _ ["town", "shut"] := ⟨f__law_steps, PySem.W.mg_of X G ad__law_steps, f__law_steps.binds (ps := ["town", "shut"]) fun _ _ _ _ _ _ us hl => match us, hl with | [_, _], _ => rfl⟩
  have f__law_chart := fun_mk (st := s__law_chart_) lo__law_chart co__law_chart kp__law_chart
  have F__law_chart : Fn K mg "_law_chart" s__law_chart_ _ _ ["town", "shut"] := ⟨f__law_chart, PySem.W.mg_of X G ad__law_chart, f__law_chart.binds (ps := ["town", "shut"]) fun _ _ _ _ _ _ us hl => match us, hl with | [_, _], _ => rfl⟩
  have f__law_verdict := fun_mk (st := s__law_verdict_) lo__law_verdict co__law_verdict kp__law_verdict
  have F__law_verdict : Fn K mg "_law_verdict" s__law_verdict_ _ _ ["town", "shut", "thing"] := ⟨f__law_verdict, PySem.W.mg_of X G ad__law_verdict, f__law_verdict.binds (ps := ["town", "shut", "thing"]) fun _ _ _ _ _ _ us hl => match us, hl with | [_, _, _], _ => rfl⟩
  have f__law_told := fun_mk (st := s__law_told_) lo__law_told co__law_told kp__law_told
  have F__law_told : Fn K mg "_law_told" s__law_told_ _ _ ["town", "shut", "thing"] := ⟨f__law_told, PySem.W.mg_of X G ad__law_told, f__law_told.binds (ps := ["town", "shut", "thing"]) fun _ _ _ _ _ _ us hl => match us, hl with | [_, _, _], _ => rfl⟩
  have f__law_twin := fun_mk (st := s__law_twin_) lo__law_twin co__law_twin kp__law_twin
  have F__law_twin : Fn K mg "_law_twin" s__law_twin_ _ _ ["town", "row"] := ⟨f__law_twin, PySem.W.mg_of X G ad__law_twin, f__law_twin.binds (ps := ["town", "row"]) fun _ _ _ _ _ _ us hl => match us, hl with | [_, _], _ => rfl⟩
  have f__law_first := fun_mk (st := s__law_first_) lo__law_first co__law_first kp__law_first
  have F__law_first : Fn K mg "_law_first" s__law_first_ _ _ ["town", "shut", "chart", "here", "goal"] := ⟨f__law_first, PySem.W.mg_of X G ad__law_first, f__law_first.binds (ps := ["town", "shut", "chart", "here", "goal"]) fun _ _ _ _ _ _ us hl => match us, hl with | [_, _, _, _, _], _ => rfl⟩
  have f__law_way := fun_mk (st := s__law_way_) lo__law_way co__law_way kp__law_way
  have F__law_way : Fn K mg "_law_way" s__law_way_ _ _ ["town", "shut", "chart", "here", "goal"] := ⟨f__law_way, PySem.W.mg_of X G ad__law_way, f__law_way.binds (ps := ["town", "shut", "chart", "here", "goal"]) fun _ _ _ _ _ _ us hl => match us, hl with | [_, _, _, _, _], _ => rfl⟩
  have f__law_leads := fun_mk (st := s__law_leads_) lo__law_leads co__law_leads kp__law_leads
  have F__law_leads : Fn K mg "_law_leads" s__law_leads_ _ _ ["town", "shut", "here", "goal", "roads"] := ⟨f__law_leads, PySem.W.mg_of X G ad__law_leads, f__law_leads.binds (ps := ["town", "shut", "here", "goal", "roads"]) fun _ _ _ _ _ _ us hl => match us, hl with | [_, _, _, _, _], _ => rfl⟩
  have f__law_pair := fun_mk (st := s__law_pair_) lo__law_pair co__law_pair kp__law_pair
  have F__law_pair : Fn K mg "_law_pair" s__law_pair_ _ _ ["town", "shut", "here", "goal", "asked", "thing"] := ⟨f__law_pair, PySem.W.mg_of X G ad__law_pair, f__law_pair.binds (ps := ["town", "shut", "here", "goal", "asked", "thing"]) fun _ _ _ _ _ _ us hl => match us, hl with | [_, _, _, _, _, _], _ => rfl⟩
  have f__law_lined := fun_mk (st := s__law_lined_) lo__law_lined co__law_lined kp__law_lined
  have F__law_lined : Fn K mg "_law_lined" s__law_lined_ _ _ ["script"] := ⟨f__law_lined, PySem.W.mg_of X G ad__law_lined, f__law_lined.binds (ps := ["script"]) fun _ _ _ _ _ _ us hl => match us, hl with | [_], _ => rfl⟩
  have f_law := fun_mk (st := s_law_) lo_law co_law kp_law
  have F_law : Fn K mg "law" s_law_ _ _ ["script"] := ⟨f_law, PySem.W.mg_of X G ad_law, f_law.binds (ps := ["script"]) fun _ _ _ _ _ _ us hl => match us, hl with | [_], _ => rfl⟩
  refine ⟨PySem.W.fnOf "law" "law" (defArgs s_law_) (defBody s_law_) (defScope s_law_) .none kV_law dc_law pm_law an_law cd_law ct_law, [("_is_row", tc__is_row, P__is_row), ("_has_shape", tc__has_shape, P__has_shape), ("_leads_on", tc__leads_on, P__leads_on), ("lets_chart", tc_lets_chart, P_lets_chart)], ?_, fun s v => .of_eq rfl, fun b _ _ TBs => ?_⟩
  · intro t ht
    simp only [List.mem_cons, List.not_mem_nil, or_false] at ht
    rcases ht with rfl | rfl | rfl | rfl
    · exact ⟨re__is_row, ⟨_, _, _, PySem.W.mg_of X G ad__is_row, lo__is_row, rfl, rfl⟩, tb__is_row⟩
    · exact ⟨re__has_shape, ⟨_, _, _, PySem.W.mg_of X G ad__has_shape, lo__has_shape, rfl, rfl⟩, tb__has_shape⟩
    · exact ⟨re__leads_on, ⟨_, _, _, PySem.W.mg_of X G ad__leads_on, lo__leads_on, rfl, rfl⟩, tb__leads_on⟩
    · exact ⟨re_lets_chart, ⟨_, _, _, PySem.W.mg_of X G ad_lets_chart, lo_lets_chart, rfl, rfl⟩, tb_lets_chart⟩
  have TB__is_row := TBs ("_is_row", tc__is_row, P__is_row) (by simp)
  have TB__has_shape := TBs ("_has_shape", tc__has_shape, P__has_shape) (by simp)
  have TB__leads_on := TBs ("_leads_on", tc__leads_on, P__leads_on) (by simp)
  have TB_lets_chart := TBs ("lets_chart", tc_lets_chart, P_lets_chart) (by simp)
  have T_NoPaper : OexC K c_NoPaper := ⟨⟨_, _, _, _, _, _, _, _, _, _, _, _, _, _, _, oc_NoPaper, by first | rfl | decide⟩, sa_NoPaper, ex_NoPaper, ty_NoPaper, kc_NoPaper⟩
  have Fi_NoPaper := dv_NoPaper____init__ (P := P) (w := w) (b := b) (mg := mg) F_NoPaper____init__ ⟨wga, wrd, wfi⟩ (PySem.W.mg_of X G ad_WagonError) T_NoPaper na_NoPaper_word na_NoPaper_at
  have k_is_whole := dv_is_whole (P := P) (w := w) (b := b) (mg := mg) (sp := spWhole K) F_is_whole (PySem.W.mg_none_of X G no_isinstance) (PySem.W.mg_none_of X G no_int) (PySem.W.mg_none_of X G no_bool) (by intro vs H Q E h; first | (obtain ⟨_, rfl, _⟩ := h; rfl; done) | (obtain ⟨_, _, rfl, _⟩ := h; rfl; done) | (obtain ⟨_, _, _, rfl, _⟩ := h; rfl; done) | (obtain ⟨_, _, _, _, rfl, _⟩ := h; rfl; done) | (obtain ⟨_, _, _, _, _, rfl, _⟩ := h; rfl; done) | (obtain ⟨_, _, _, _, _, _, rfl, _⟩ := h; rfl; done) | (obtain ⟨_, _, _, _, _, _, _, rfl, _⟩ := h; rfl; done) | (obtain ⟨_, _, _, _, _, _, _, _, rfl, _⟩ := h; rfl; done) | (obtain ⟨_, _, _, _, _, _, _, _, _, rfl, _⟩ := h; rfl; done) | (obtain ⟨_, _, _, _, _, _, _, _, _, _, rfl, _⟩ := h; rfl; done) | (obtain ⟨_, _, _, _, _, _, _, _, _, _, _, rfl, _⟩ := h; rfl; done) | (obtain ⟨_, _, _, _, _, _, _, _, _, _, _, _, rfl, _⟩ := h; rfl; done) | (obtain ⟨_, _, _, _, _, _, _, _, _, _, _, _, _, rfl, _⟩ := h; rfl; done) | (obtain ⟨_, _, _, _, _, _, _, _, _, _, _, _, _, _, rfl, _⟩ := h; rfl; done) | (rcases h with h | h <;> first | (obtain ⟨_, rfl, _⟩ := h; rfl; done) | (obtain ⟨_, _, rfl, _⟩ := h; rfl; done) | (obtain ⟨_, _, _, rfl, _⟩ := h; rfl; done) | (obtain ⟨_, _, _, _, rfl, _⟩ := h; rfl; done) | (obtain ⟨_, _, _, _, _, rfl, _⟩ := h; rfl; done) | (obtain ⟨_, _, _, _, _, _, rfl, _⟩ := h; rfl; done) | (obtain ⟨_, _, _, _, _, _, _, rfl, _⟩ := h; rfl; done) | (obtain ⟨_, _, _, _, _, _, _, _, rfl, _⟩ := h; rfl; done) | (obtain ⟨_, _, _, _, _, _, _, _, _, rfl, _⟩ := h; rfl; done) | (obtain ⟨_, _, _, _, _, _, _, _, _, _, rfl, _⟩ := h; rfl; done) | (obtain ⟨_, _, _, _, _, _, _, _, _, _, _, rfl, _⟩ := h; rfl; done) | (obtain ⟨_, _, _, _, _, _, _, _, _, _, _, _, rfl, _⟩ := h; rfl; done) | (obtain ⟨_, _, _, _, _, _, _, _, _, _, _, _, _, rfl, _⟩ := h; rfl; done) | (obtain ⟨_, _, _, _, _, _, _, _, _, _, _, _, _, _, rfl, _⟩ := h; rfl; done))) (rd_whole K)
  have k_is_within := dv_is_within (P := P) (w := w) (b := b) (mg := mg) (sp := spWithin K) F_is_within F_is_whole k_is_whole (by intro vs H Q E h; first | (obtain ⟨_, rfl, _⟩ := h; rfl; done) | (obtain ⟨_, _, rfl, _⟩ := h; rfl; done) | (obtain ⟨_, _, _, rfl, _⟩ := h; rfl; done) | (obtain ⟨_, _, _, _, rfl, _⟩ := h; rfl; done) | (obtain ⟨_, _, _, _, _, rfl, _⟩ := h; rfl; done) | (obtain ⟨_, _, _, _, _, _, rfl, _⟩ := h; rfl; done) | (obtain ⟨_, _, _, _, _, _, _, rfl, _⟩ := h; rfl; done) | (obtain ⟨_, _, _, _, _, _, _, _, rfl, _⟩ := h; rfl; done) | (obtain ⟨_, _, _, _, _, _, _, _, _, rfl, _⟩ := h; rfl; done) | (obtain ⟨_, _, _, _, _, _, _, _, _, _, rfl, _⟩ := h; rfl; done) | (obtain ⟨_, _, _, _, _, _, _, _, _, _, _, rfl, _⟩ := h; rfl; done) | (obtain ⟨_, _, _, _, _, _, _, _, _, _, _, _, rfl, _⟩ := h; rfl; done) | (obtain ⟨_, _, _, _, _, _, _, _, _, _, _, _, _, rfl, _⟩ := h; rfl; done) | (obtain ⟨_, _, _, _, _, _, _, _, _, _, _, _, _, _, rfl, _⟩ := h; rfl; done) | (rcases h with h | h <;> first | (obtain ⟨_, rfl, _⟩ := h; rfl; done) | (obtain ⟨_, _, rfl, _⟩ := h; rfl; done) | (obtain ⟨_, _, _, rfl, _⟩ := h; rfl; done) | (obtain ⟨_, _, _, _, rfl, _⟩ := h; rfl; done) | (obtain ⟨_, _, _, _, _, rfl, _⟩ := h; rfl; done) | (obtain ⟨_, _, _, _, _, _, rfl, _⟩ := h; rfl; done) | (obtain ⟨_, _, _, _, _, _, _, rfl, _⟩ := h; rfl; done) | (obtain ⟨_, _, _, _, _, _, _, _, rfl, _⟩ := h; rfl; done) | (obtain ⟨_, _, _, _, _, _, _, _, _, rfl, _⟩ := h; rfl; done) | (obtain ⟨_, _, _, _, _, _, _, _, _, _, rfl, _⟩ := h; rfl; done) | (obtain ⟨_, _, _, _, _, _, _, _, _, _, _, rfl, _⟩ := h; rfl; done) | (obtain ⟨_, _, _, _, _, _, _, _, _, _, _, _, rfl, _⟩ := h; rfl; done) | (obtain ⟨_, _, _, _, _, _, _, _, _, _, _, _, _, rfl, _⟩ := h; rfl; done) | (obtain ⟨_, _, _, _, _, _, _, _, _, _, _, _, _, _, rfl, _⟩ := h; rfl; done))) (rd_within K)
  have k_drives_of := dv_drives_of (P := P) (w := w) (b := b) (mg := mg) (sp := spSteps) F_drives_of (PySem.W.mg_none_of X G no_enumerate) (by intro vs H Q E h; first | (obtain ⟨_, rfl, _⟩ := h; rfl; done) | (obtain ⟨_, _, rfl, _⟩ := h; rfl; done) | (obtain ⟨_, _, _, rfl, _⟩ := h; rfl; done) | (obtain ⟨_, _, _, _, rfl, _⟩ := h; rfl; done) | (obtain ⟨_, _, _, _, _, rfl, _⟩ := h; rfl; done) | (obtain ⟨_, _, _, _, _, _, rfl, _⟩ := h; rfl; done) | (obtain ⟨_, _, _, _, _, _, _, rfl, _⟩ := h; rfl; done) | (obtain ⟨_, _, _, _, _, _, _, _, rfl, _⟩ := h; rfl; done) | (obtain ⟨_, _, _, _, _, _, _, _, _, rfl, _⟩ := h; rfl; done) | (obtain ⟨_, _, _, _, _, _, _, _, _, _, rfl, _⟩ := h; rfl; done) | (obtain ⟨_, _, _, _, _, _, _, _, _, _, _, rfl, _⟩ := h; rfl; done) | (obtain ⟨_, _, _, _, _, _, _, _, _, _, _, _, rfl, _⟩ := h; rfl; done) | (obtain ⟨_, _, _, _, _, _, _, _, _, _, _, _, _, rfl, _⟩ := h; rfl; done) | (obtain ⟨_, _, _, _, _, _, _, _, _, _, _, _, _, _, rfl, _⟩ := h; rfl; done) | (rcases h with h | h <;> first | (obtain ⟨_, rfl, _⟩ := h; rfl; done) | (obtain ⟨_, _, rfl, _⟩ := h; rfl; done) | (obtain ⟨_, _, _, rfl, _⟩ := h; rfl; done) | (obtain ⟨_, _, _, _, rfl, _⟩ := h; rfl; done) | (obtain ⟨_, _, _, _, _, rfl, _⟩ := h; rfl; done) | (obtain ⟨_, _, _, _, _, _, rfl, _⟩ := h; rfl; done) | (obtain ⟨_, _, _, _, _, _, _, rfl, _⟩ := h; rfl; done) | (obtain ⟨_, _, _, _, _, _, _, _, rfl, _⟩ := h; rfl; done) | (obtain ⟨_, _, _, _, _, _, _, _, _, rfl, _⟩ := h; rfl; done) | (obtain ⟨_, _, _, _, _, _, _, _, _, _, rfl, _⟩ := h; rfl; done) | (obtain ⟨_, _, _, _, _, _, _, _, _, _, _, rfl, _⟩ := h; rfl; done) | (obtain ⟨_, _, _, _, _, _, _, _, _, _, _, _, rfl, _⟩ := h; rfl; done) | (obtain ⟨_, _, _, _, _, _, _, _, _, _, _, _, _, rfl, _⟩ := h; rfl; done) | (obtain ⟨_, _, _, _, _, _, _, _, _, _, _, _, _, _, rfl, _⟩ := h; rfl; done))) (rd_drives K)
  have k_is_steep := dv_is_steep (P := P) (w := w) (b := b) (mg := mg) (sp := spSteep K) F_is_steep  (by intro vs H Q E h; first | (obtain ⟨_, rfl, _⟩ := h; rfl; done) | (obtain ⟨_, _, rfl, _⟩ := h; rfl; done) | (obtain ⟨_, _, _, rfl, _⟩ := h; rfl; done) | (obtain ⟨_, _, _, _, rfl, _⟩ := h; rfl; done) | (obtain ⟨_, _, _, _, _, rfl, _⟩ := h; rfl; done) | (obtain ⟨_, _, _, _, _, _, rfl, _⟩ := h; rfl; done) | (obtain ⟨_, _, _, _, _, _, _, rfl, _⟩ := h; rfl; done) | (obtain ⟨_, _, _, _, _, _, _, _, rfl, _⟩ := h; rfl; done) | (obtain ⟨_, _, _, _, _, _, _, _, _, rfl, _⟩ := h; rfl; done) | (obtain ⟨_, _, _, _, _, _, _, _, _, _, rfl, _⟩ := h; rfl; done) | (obtain ⟨_, _, _, _, _, _, _, _, _, _, _, rfl, _⟩ := h; rfl; done) | (obtain ⟨_, _, _, _, _, _, _, _, _, _, _, _, rfl, _⟩ := h; rfl; done) | (obtain ⟨_, _, _, _, _, _, _, _, _, _, _, _, _, rfl, _⟩ := h; rfl; done) | (obtain ⟨_, _, _, _, _, _, _, _, _, _, _, _, _, _, rfl, _⟩ := h; rfl; done) | (rcases h with h | h <;> first | (obtain ⟨_, rfl, _⟩ := h; rfl; done) | (obtain ⟨_, _, rfl, _⟩ := h; rfl; done) | (obtain ⟨_, _, _, rfl, _⟩ := h; rfl; done) | (obtain ⟨_, _, _, _, rfl, _⟩ := h; rfl; done) | (obtain ⟨_, _, _, _, _, rfl, _⟩ := h; rfl; done) | (obtain ⟨_, _, _, _, _, _, rfl, _⟩ := h; rfl; done) | (obtain ⟨_, _, _, _, _, _, _, rfl, _⟩ := h; rfl; done) | (obtain ⟨_, _, _, _, _, _, _, _, rfl, _⟩ := h; rfl; done) | (obtain ⟨_, _, _, _, _, _, _, _, _, rfl, _⟩ := h; rfl; done) | (obtain ⟨_, _, _, _, _, _, _, _, _, _, rfl, _⟩ := h; rfl; done) | (obtain ⟨_, _, _, _, _, _, _, _, _, _, _, rfl, _⟩ := h; rfl; done) | (obtain ⟨_, _, _, _, _, _, _, _, _, _, _, _, rfl, _⟩ := h; rfl; done) | (obtain ⟨_, _, _, _, _, _, _, _, _, _, _, _, _, rfl, _⟩ := h; rfl; done) | (obtain ⟨_, _, _, _, _, _, _, _, _, _, _, _, _, _, rfl, _⟩ := h; rfl; done))) (rd_steep K)
  have k__least_minutes := dv__least_minutes (P := P) (w := w) (b := b) (mg := mg) (sp := spRowMin K) F__least_minutes (PySem.W.mg_none_of X G no_range) F_is_steep k_is_steep (PySem.W.mg_none_of X G no_tuple) (by intro vs H Q E h; first | (obtain ⟨_, rfl, _⟩ := h; rfl; done) | (obtain ⟨_, _, rfl, _⟩ := h; rfl; done) | (obtain ⟨_, _, _, rfl, _⟩ := h; rfl; done) | (obtain ⟨_, _, _, _, rfl, _⟩ := h; rfl; done) | (obtain ⟨_, _, _, _, _, rfl, _⟩ := h; rfl; done) | (obtain ⟨_, _, _, _, _, _, rfl, _⟩ := h; rfl; done) | (obtain ⟨_, _, _, _, _, _, _, rfl, _⟩ := h; rfl; done) | (obtain ⟨_, _, _, _, _, _, _, _, rfl, _⟩ := h; rfl; done) | (obtain ⟨_, _, _, _, _, _, _, _, _, rfl, _⟩ := h; rfl; done) | (obtain ⟨_, _, _, _, _, _, _, _, _, _, rfl, _⟩ := h; rfl; done) | (obtain ⟨_, _, _, _, _, _, _, _, _, _, _, rfl, _⟩ := h; rfl; done) | (obtain ⟨_, _, _, _, _, _, _, _, _, _, _, _, rfl, _⟩ := h; rfl; done) | (obtain ⟨_, _, _, _, _, _, _, _, _, _, _, _, _, rfl, _⟩ := h; rfl; done) | (obtain ⟨_, _, _, _, _, _, _, _, _, _, _, _, _, _, rfl, _⟩ := h; rfl; done) | (rcases h with h | h <;> first | (obtain ⟨_, rfl, _⟩ := h; rfl; done) | (obtain ⟨_, _, rfl, _⟩ := h; rfl; done) | (obtain ⟨_, _, _, rfl, _⟩ := h; rfl; done) | (obtain ⟨_, _, _, _, rfl, _⟩ := h; rfl; done) | (obtain ⟨_, _, _, _, _, rfl, _⟩ := h; rfl; done) | (obtain ⟨_, _, _, _, _, _, rfl, _⟩ := h; rfl; done) | (obtain ⟨_, _, _, _, _, _, _, rfl, _⟩ := h; rfl; done) | (obtain ⟨_, _, _, _, _, _, _, _, rfl, _⟩ := h; rfl; done) | (obtain ⟨_, _, _, _, _, _, _, _, _, rfl, _⟩ := h; rfl; done) | (obtain ⟨_, _, _, _, _, _, _, _, _, _, rfl, _⟩ := h; rfl; done) | (obtain ⟨_, _, _, _, _, _, _, _, _, _, _, rfl, _⟩ := h; rfl; done) | (obtain ⟨_, _, _, _, _, _, _, _, _, _, _, _, rfl, _⟩ := h; rfl; done) | (obtain ⟨_, _, _, _, _, _, _, _, _, _, _, _, _, rfl, _⟩ := h; rfl; done) | (obtain ⟨_, _, _, _, _, _, _, _, _, _, _, _, _, _, rfl, _⟩ := h; rfl; done))) (rd_rowMin K)
  have k_chart_of := dv_chart_of (P := P) (w := w) (b := b) (mg := mg) (sp := spChartOf) F_chart_of F_drives_of k_drives_of (PySem.W.mg_none_of X G no_len) (PySem.W.mg_none_of X G no_tuple) (PySem.W.mg_none_of X G no_range) F__least_minutes k__least_minutes (by intro vs H Q E h; first | (obtain ⟨_, rfl, _⟩ := h; rfl; done) | (obtain ⟨_, _, rfl, _⟩ := h; rfl; done) | (obtain ⟨_, _, _, rfl, _⟩ := h; rfl; done) | (obtain ⟨_, _, _, _, rfl, _⟩ := h; rfl; done) | (obtain ⟨_, _, _, _, _, rfl, _⟩ := h; rfl; done) | (obtain ⟨_, _, _, _, _, _, rfl, _⟩ := h; rfl; done) | (obtain ⟨_, _, _, _, _, _, _, rfl, _⟩ := h; rfl; done) | (obtain ⟨_, _, _, _, _, _, _, _, rfl, _⟩ := h; rfl; done) | (obtain ⟨_, _, _, _, _, _, _, _, _, rfl, _⟩ := h; rfl; done) | (obtain ⟨_, _, _, _, _, _, _, _, _, _, rfl, _⟩ := h; rfl; done) | (obtain ⟨_, _, _, _, _, _, _, _, _, _, _, rfl, _⟩ := h; rfl; done) | (obtain ⟨_, _, _, _, _, _, _, _, _, _, _, _, rfl, _⟩ := h; rfl; done) | (obtain ⟨_, _, _, _, _, _, _, _, _, _, _, _, _, rfl, _⟩ := h; rfl; done) | (obtain ⟨_, _, _, _, _, _, _, _, _, _, _, _, _, _, rfl, _⟩ := h; rfl; done) | (rcases h with h | h <;> first | (obtain ⟨_, rfl, _⟩ := h; rfl; done) | (obtain ⟨_, _, rfl, _⟩ := h; rfl; done) | (obtain ⟨_, _, _, rfl, _⟩ := h; rfl; done) | (obtain ⟨_, _, _, _, rfl, _⟩ := h; rfl; done) | (obtain ⟨_, _, _, _, _, rfl, _⟩ := h; rfl; done) | (obtain ⟨_, _, _, _, _, _, rfl, _⟩ := h; rfl; done) | (obtain ⟨_, _, _, _, _, _, _, rfl, _⟩ := h; rfl; done) | (obtain ⟨_, _, _, _, _, _, _, _, rfl, _⟩ := h; rfl; done) | (obtain ⟨_, _, _, _, _, _, _, _, _, rfl, _⟩ := h; rfl; done) | (obtain ⟨_, _, _, _, _, _, _, _, _, _, rfl, _⟩ := h; rfl; done) | (obtain ⟨_, _, _, _, _, _, _, _, _, _, _, rfl, _⟩ := h; rfl; done) | (obtain ⟨_, _, _, _, _, _, _, _, _, _, _, _, rfl, _⟩ := h; rfl; done) | (obtain ⟨_, _, _, _, _, _, _, _, _, _, _, _, _, rfl, _⟩ := h; rfl; done) | (obtain ⟨_, _, _, _, _, _, _, _, _, _, _, _, _, _, rfl, _⟩ := h; rfl; done))) (rd_chartOf K)
  have k_is_least := dv_is_least (P := P) (w := w) (b := b) (mg := mg) (sp := spLeast) F_is_least  (by intro vs H Q E h; first | (obtain ⟨_, rfl, _⟩ := h; rfl; done) | (obtain ⟨_, _, rfl, _⟩ := h; rfl; done) | (obtain ⟨_, _, _, rfl, _⟩ := h; rfl; done) | (obtain ⟨_, _, _, _, rfl, _⟩ := h; rfl; done) | (obtain ⟨_, _, _, _, _, rfl, _⟩ := h; rfl; done) | (obtain ⟨_, _, _, _, _, _, rfl, _⟩ := h; rfl; done) | (obtain ⟨_, _, _, _, _, _, _, rfl, _⟩ := h; rfl; done) | (obtain ⟨_, _, _, _, _, _, _, _, rfl, _⟩ := h; rfl; done) | (obtain ⟨_, _, _, _, _, _, _, _, _, rfl, _⟩ := h; rfl; done) | (obtain ⟨_, _, _, _, _, _, _, _, _, _, rfl, _⟩ := h; rfl; done) | (obtain ⟨_, _, _, _, _, _, _, _, _, _, _, rfl, _⟩ := h; rfl; done) | (obtain ⟨_, _, _, _, _, _, _, _, _, _, _, _, rfl, _⟩ := h; rfl; done) | (obtain ⟨_, _, _, _, _, _, _, _, _, _, _, _, _, rfl, _⟩ := h; rfl; done) | (obtain ⟨_, _, _, _, _, _, _, _, _, _, _, _, _, _, rfl, _⟩ := h; rfl; done) | (rcases h with h | h <;> first | (obtain ⟨_, rfl, _⟩ := h; rfl; done) | (obtain ⟨_, _, rfl, _⟩ := h; rfl; done) | (obtain ⟨_, _, _, rfl, _⟩ := h; rfl; done) | (obtain ⟨_, _, _, _, rfl, _⟩ := h; rfl; done) | (obtain ⟨_, _, _, _, _, rfl, _⟩ := h; rfl; done) | (obtain ⟨_, _, _, _, _, _, rfl, _⟩ := h; rfl; done) | (obtain ⟨_, _, _, _, _, _, _, rfl, _⟩ := h; rfl; done) | (obtain ⟨_, _, _, _, _, _, _, _, rfl, _⟩ := h; rfl; done) | (obtain ⟨_, _, _, _, _, _, _, _, _, rfl, _⟩ := h; rfl; done) | (obtain ⟨_, _, _, _, _, _, _, _, _, _, rfl, _⟩ := h; rfl; done) | (obtain ⟨_, _, _, _, _, _, _, _, _, _, _, rfl, _⟩ := h; rfl; done) | (obtain ⟨_, _, _, _, _, _, _, _, _, _, _, _, rfl, _⟩ := h; rfl; done) | (obtain ⟨_, _, _, _, _, _, _, _, _, _, _, _, _, rfl, _⟩ := h; rfl; done) | (obtain ⟨_, _, _, _, _, _, _, _, _, _, _, _, _, _, rfl, _⟩ := h; rfl; done))) (rd_least K)
  have k_first_road := dv_first_road (P := P) (w := w) (b := b) (mg := mg) (sp := spFirst) F_first_road F_drives_of k_drives_of F_is_least k_is_least (by intro vs H Q E h; first | (obtain ⟨_, rfl, _⟩ := h; rfl; done) | (obtain ⟨_, _, rfl, _⟩ := h; rfl; done) | (obtain ⟨_, _, _, rfl, _⟩ := h; rfl; done) | (obtain ⟨_, _, _, _, rfl, _⟩ := h; rfl; done) | (obtain ⟨_, _, _, _, _, rfl, _⟩ := h; rfl; done) | (obtain ⟨_, _, _, _, _, _, rfl, _⟩ := h; rfl; done) | (obtain ⟨_, _, _, _, _, _, _, rfl, _⟩ := h; rfl; done) | (obtain ⟨_, _, _, _, _, _, _, _, rfl, _⟩ := h; rfl; done) | (obtain ⟨_, _, _, _, _, _, _, _, _, rfl, _⟩ := h; rfl; done) | (obtain ⟨_, _, _, _, _, _, _, _, _, _, rfl, _⟩ := h; rfl; done) | (obtain ⟨_, _, _, _, _, _, _, _, _, _, _, rfl, _⟩ := h; rfl; done) | (obtain ⟨_, _, _, _, _, _, _, _, _, _, _, _, rfl, _⟩ := h; rfl; done) | (obtain ⟨_, _, _, _, _, _, _, _, _, _, _, _, _, rfl, _⟩ := h; rfl; done) | (obtain ⟨_, _, _, _, _, _, _, _, _, _, _, _, _, _, rfl, _⟩ := h; rfl; done) | (rcases h with h | h <;> first | (obtain ⟨_, rfl, _⟩ := h; rfl; done) | (obtain ⟨_, _, rfl, _⟩ := h; rfl; done) | (obtain ⟨_, _, _, rfl, _⟩ := h; rfl; done) | (obtain ⟨_, _, _, _, rfl, _⟩ := h; rfl; done) | (obtain ⟨_, _, _, _, _, rfl, _⟩ := h; rfl; done) | (obtain ⟨_, _, _, _, _, _, rfl, _⟩ := h; rfl; done) | (obtain ⟨_, _, _, _, _, _, _, rfl, _⟩ := h; rfl; done) | (obtain ⟨_, _, _, _, _, _, _, _, rfl, _⟩ := h; rfl; done) | (obtain ⟨_, _, _, _, _, _, _, _, _, rfl, _⟩ := h; rfl; done) | (obtain ⟨_, _, _, _, _, _, _, _, _, _, rfl, _⟩ := h; rfl; done) | (obtain ⟨_, _, _, _, _, _, _, _, _, _, _, rfl, _⟩ := h; rfl; done) | (obtain ⟨_, _, _, _, _, _, _, _, _, _, _, _, rfl, _⟩ := h; rfl; done) | (obtain ⟨_, _, _, _, _, _, _, _, _, _, _, _, _, rfl, _⟩ := h; rfl; done) | (obtain ⟨_, _, _, _, _, _, _, _, _, _, _, _, _, _, rfl, _⟩ := h; rfl; done))) (rd_first K)
  have k_led_to := dv_led_to (P := P) (w := w) (b := b) (mg := mg) (sp := spLed) F_led_to  (by intro vs H Q E h; first | (obtain ⟨_, rfl, _⟩ := h; rfl; done) | (obtain ⟨_, _, rfl, _⟩ := h; rfl; done) | (obtain ⟨_, _, _, rfl, _⟩ := h; rfl; done) | (obtain ⟨_, _, _, _, rfl, _⟩ := h; rfl; done) | (obtain ⟨_, _, _, _, _, rfl, _⟩ := h; rfl; done) | (obtain ⟨_, _, _, _, _, _, rfl, _⟩ := h; rfl; done) | (obtain ⟨_, _, _, _, _, _, _, rfl, _⟩ := h; rfl; done) | (obtain ⟨_, _, _, _, _, _, _, _, rfl, _⟩ := h; rfl; done) | (obtain ⟨_, _, _, _, _, _, _, _, _, rfl, _⟩ := h; rfl; done) | (obtain ⟨_, _, _, _, _, _, _, _, _, _, rfl, _⟩ := h; rfl; done) | (obtain ⟨_, _, _, _, _, _, _, _, _, _, _, rfl, _⟩ := h; rfl; done) | (obtain ⟨_, _, _, _, _, _, _, _, _, _, _, _, rfl, _⟩ := h; rfl; done) | (obtain ⟨_, _, _, _, _, _, _, _, _, _, _, _, _, rfl, _⟩ := h; rfl; done) | (obtain ⟨_, _, _, _, _, _, _, _, _, _, _, _, _, _, rfl, _⟩ := h; rfl; done) | (rcases h with h | h <;> first | (obtain ⟨_, rfl, _⟩ := h; rfl; done) | (obtain ⟨_, _, rfl, _⟩ := h; rfl; done) | (obtain ⟨_, _, _, rfl, _⟩ := h; rfl; done) | (obtain ⟨_, _, _, _, rfl, _⟩ := h; rfl; done) | (obtain ⟨_, _, _, _, _, rfl, _⟩ := h; rfl; done) | (obtain ⟨_, _, _, _, _, _, rfl, _⟩ := h; rfl; done) | (obtain ⟨_, _, _, _, _, _, _, rfl, _⟩ := h; rfl; done) | (obtain ⟨_, _, _, _, _, _, _, _, rfl, _⟩ := h; rfl; done) | (obtain ⟨_, _, _, _, _, _, _, _, _, rfl, _⟩ := h; rfl; done) | (obtain ⟨_, _, _, _, _, _, _, _, _, _, rfl, _⟩ := h; rfl; done) | (obtain ⟨_, _, _, _, _, _, _, _, _, _, _, rfl, _⟩ := h; rfl; done) | (obtain ⟨_, _, _, _, _, _, _, _, _, _, _, _, rfl, _⟩ := h; rfl; done) | (obtain ⟨_, _, _, _, _, _, _, _, _, _, _, _, _, rfl, _⟩ := h; rfl; done) | (obtain ⟨_, _, _, _, _, _, _, _, _, _, _, _, _, _, rfl, _⟩ := h; rfl; done))) (rd_led K)
  have k_way := dv_way (P := P) (w := w) (b := b) (mg := mg) (sp := spWay) F_way F_chart_of k_chart_of F_first_road k_first_road F_led_to k_led_to (PySem.W.mg_none_of X G no_tuple) (by intro vs H Q E h; first | (obtain ⟨_, rfl, _⟩ := h; rfl; done) | (obtain ⟨_, _, rfl, _⟩ := h; rfl; done) | (obtain ⟨_, _, _, rfl, _⟩ := h; rfl; done) | (obtain ⟨_, _, _, _, rfl, _⟩ := h; rfl; done) | (obtain ⟨_, _, _, _, _, rfl, _⟩ := h; rfl; done) | (obtain ⟨_, _, _, _, _, _, rfl, _⟩ := h; rfl; done) | (obtain ⟨_, _, _, _, _, _, _, rfl, _⟩ := h; rfl; done) | (obtain ⟨_, _, _, _, _, _, _, _, rfl, _⟩ := h; rfl; done) | (obtain ⟨_, _, _, _, _, _, _, _, _, rfl, _⟩ := h; rfl; done) | (obtain ⟨_, _, _, _, _, _, _, _, _, _, rfl, _⟩ := h; rfl; done) | (obtain ⟨_, _, _, _, _, _, _, _, _, _, _, rfl, _⟩ := h; rfl; done) | (obtain ⟨_, _, _, _, _, _, _, _, _, _, _, _, rfl, _⟩ := h; rfl; done) | (obtain ⟨_, _, _, _, _, _, _, _, _, _, _, _, _, rfl, _⟩ := h; rfl; done) | (obtain ⟨_, _, _, _, _, _, _, _, _, _, _, _, _, _, rfl, _⟩ := h; rfl; done) | (rcases h with h | h <;> first | (obtain ⟨_, rfl, _⟩ := h; rfl; done) | (obtain ⟨_, _, rfl, _⟩ := h; rfl; done) | (obtain ⟨_, _, _, rfl, _⟩ := h; rfl; done) | (obtain ⟨_, _, _, _, rfl, _⟩ := h; rfl; done) | (obtain ⟨_, _, _, _, _, rfl, _⟩ := h; rfl; done) | (obtain ⟨_, _, _, _, _, _, rfl, _⟩ := h; rfl; done) | (obtain ⟨_, _, _, _, _, _, _, rfl, _⟩ := h; rfl; done) | (obtain ⟨_, _, _, _, _, _, _, _, rfl, _⟩ := h; rfl; done) | (obtain ⟨_, _, _, _, _, _, _, _, _, rfl, _⟩ := h; rfl; done) | (obtain ⟨_, _, _, _, _, _, _, _, _, _, rfl, _⟩ := h; rfl; done) | (obtain ⟨_, _, _, _, _, _, _, _, _, _, _, rfl, _⟩ := h; rfl; done) | (obtain ⟨_, _, _, _, _, _, _, _, _, _, _, _, rfl, _⟩ := h; rfl; done) | (obtain ⟨_, _, _, _, _, _, _, _, _, _, _, _, _, rfl, _⟩ := h; rfl; done) | (obtain ⟨_, _, _, _, _, _, _, _, _, _, _, _, _, _, rfl, _⟩ := h; rfl; done))) (rd_way K)
  have k_is_way := dv_is_way (P := P) (w := w) (b := b) (mg := mg) (sp := spIsWay K) F_is_way (PySem.W.mg_none_of X G no_isinstance) (PySem.W.mg_none_of X G no_tuple) F_is_within k_is_within (PySem.W.mg_none_of X G no_len) F_led_to k_led_to (by intro vs H Q E h; first | (obtain ⟨_, rfl, _⟩ := h; rfl; done) | (obtain ⟨_, _, rfl, _⟩ := h; rfl; done) | (obtain ⟨_, _, _, rfl, _⟩ := h; rfl; done) | (obtain ⟨_, _, _, _, rfl, _⟩ := h; rfl; done) | (obtain ⟨_, _, _, _, _, rfl, _⟩ := h; rfl; done) | (obtain ⟨_, _, _, _, _, _, rfl, _⟩ := h; rfl; done) | (obtain ⟨_, _, _, _, _, _, _, rfl, _⟩ := h; rfl; done) | (obtain ⟨_, _, _, _, _, _, _, _, rfl, _⟩ := h; rfl; done) | (obtain ⟨_, _, _, _, _, _, _, _, _, rfl, _⟩ := h; rfl; done) | (obtain ⟨_, _, _, _, _, _, _, _, _, _, rfl, _⟩ := h; rfl; done) | (obtain ⟨_, _, _, _, _, _, _, _, _, _, _, rfl, _⟩ := h; rfl; done) | (obtain ⟨_, _, _, _, _, _, _, _, _, _, _, _, rfl, _⟩ := h; rfl; done) | (obtain ⟨_, _, _, _, _, _, _, _, _, _, _, _, _, rfl, _⟩ := h; rfl; done) | (obtain ⟨_, _, _, _, _, _, _, _, _, _, _, _, _, _, rfl, _⟩ := h; rfl; done) | (rcases h with h | h <;> first | (obtain ⟨_, rfl, _⟩ := h; rfl; done) | (obtain ⟨_, _, rfl, _⟩ := h; rfl; done) | (obtain ⟨_, _, _, rfl, _⟩ := h; rfl; done) | (obtain ⟨_, _, _, _, rfl, _⟩ := h; rfl; done) | (obtain ⟨_, _, _, _, _, rfl, _⟩ := h; rfl; done) | (obtain ⟨_, _, _, _, _, _, rfl, _⟩ := h; rfl; done) | (obtain ⟨_, _, _, _, _, _, _, rfl, _⟩ := h; rfl; done) | (obtain ⟨_, _, _, _, _, _, _, _, rfl, _⟩ := h; rfl; done) | (obtain ⟨_, _, _, _, _, _, _, _, _, rfl, _⟩ := h; rfl; done) | (obtain ⟨_, _, _, _, _, _, _, _, _, _, rfl, _⟩ := h; rfl; done) | (obtain ⟨_, _, _, _, _, _, _, _, _, _, _, rfl, _⟩ := h; rfl; done) | (obtain ⟨_, _, _, _, _, _, _, _, _, _, _, _, rfl, _⟩ := h; rfl; done) | (obtain ⟨_, _, _, _, _, _, _, _, _, _, _, _, _, rfl, _⟩ := h; rfl; done) | (obtain ⟨_, _, _, _, _, _, _, _, _, _, _, _, _, _, rfl, _⟩ := h; rfl; done))) (rd_isway K)
  have k_minutes_of := dv_minutes_of (P := P) (w := w) (b := b) (mg := mg) (sp := spMin) F_minutes_of F_led_to k_led_to (by intro vs H Q E h; first | (obtain ⟨_, rfl, _⟩ := h; rfl; done) | (obtain ⟨_, _, rfl, _⟩ := h; rfl; done) | (obtain ⟨_, _, _, rfl, _⟩ := h; rfl; done) | (obtain ⟨_, _, _, _, rfl, _⟩ := h; rfl; done) | (obtain ⟨_, _, _, _, _, rfl, _⟩ := h; rfl; done) | (obtain ⟨_, _, _, _, _, _, rfl, _⟩ := h; rfl; done) | (obtain ⟨_, _, _, _, _, _, _, rfl, _⟩ := h; rfl; done) | (obtain ⟨_, _, _, _, _, _, _, _, rfl, _⟩ := h; rfl; done) | (obtain ⟨_, _, _, _, _, _, _, _, _, rfl, _⟩ := h; rfl; done) | (obtain ⟨_, _, _, _, _, _, _, _, _, _, rfl, _⟩ := h; rfl; done) | (obtain ⟨_, _, _, _, _, _, _, _, _, _, _, rfl, _⟩ := h; rfl; done) | (obtain ⟨_, _, _, _, _, _, _, _, _, _, _, _, rfl, _⟩ := h; rfl; done) | (obtain ⟨_, _, _, _, _, _, _, _, _, _, _, _, _, rfl, _⟩ := h; rfl; done) | (obtain ⟨_, _, _, _, _, _, _, _, _, _, _, _, _, _, rfl, _⟩ := h; rfl; done) | (rcases h with h | h <;> first | (obtain ⟨_, rfl, _⟩ := h; rfl; done) | (obtain ⟨_, _, rfl, _⟩ := h; rfl; done) | (obtain ⟨_, _, _, rfl, _⟩ := h; rfl; done) | (obtain ⟨_, _, _, _, rfl, _⟩ := h; rfl; done) | (obtain ⟨_, _, _, _, _, rfl, _⟩ := h; rfl; done) | (obtain ⟨_, _, _, _, _, _, rfl, _⟩ := h; rfl; done) | (obtain ⟨_, _, _, _, _, _, _, rfl, _⟩ := h; rfl; done) | (obtain ⟨_, _, _, _, _, _, _, _, rfl, _⟩ := h; rfl; done) | (obtain ⟨_, _, _, _, _, _, _, _, _, rfl, _⟩ := h; rfl; done) | (obtain ⟨_, _, _, _, _, _, _, _, _, _, rfl, _⟩ := h; rfl; done) | (obtain ⟨_, _, _, _, _, _, _, _, _, _, _, rfl, _⟩ := h; rfl; done) | (obtain ⟨_, _, _, _, _, _, _, _, _, _, _, _, rfl, _⟩ := h; rfl; done) | (obtain ⟨_, _, _, _, _, _, _, _, _, _, _, _, _, rfl, _⟩ := h; rfl; done) | (obtain ⟨_, _, _, _, _, _, _, _, _, _, _, _, _, _, rfl, _⟩ := h; rfl; done))) (rd_min K)
  have k__is_row := dv__is_row (P := P) (w := w) (b := b) (mg := mg) (sp := spIsRow K [P__is_row, P__has_shape, P__leads_on, P_lets_chart] P__is_row) F__is_row rfl TB__is_row (PySem.W.mg_none_of X G no_isinstance) (PySem.W.mg_none_of X G no_tuple) (PySem.W.mg_none_of X G no_len) (PySem.W.mg_none_of X G no_all) F_is_whole k_is_whole (by intro vs H Q E h; first | (obtain ⟨_, rfl, _⟩ := h; rfl; done) | (obtain ⟨_, _, rfl, _⟩ := h; rfl; done) | (obtain ⟨_, _, _, rfl, _⟩ := h; rfl; done) | (obtain ⟨_, _, _, _, rfl, _⟩ := h; rfl; done) | (obtain ⟨_, _, _, _, _, rfl, _⟩ := h; rfl; done) | (obtain ⟨_, _, _, _, _, _, rfl, _⟩ := h; rfl; done) | (obtain ⟨_, _, _, _, _, _, _, rfl, _⟩ := h; rfl; done) | (obtain ⟨_, _, _, _, _, _, _, _, rfl, _⟩ := h; rfl; done) | (obtain ⟨_, _, _, _, _, _, _, _, _, rfl, _⟩ := h; rfl; done) | (obtain ⟨_, _, _, _, _, _, _, _, _, _, rfl, _⟩ := h; rfl; done) | (obtain ⟨_, _, _, _, _, _, _, _, _, _, _, rfl, _⟩ := h; rfl; done) | (obtain ⟨_, _, _, _, _, _, _, _, _, _, _, _, rfl, _⟩ := h; rfl; done) | (obtain ⟨_, _, _, _, _, _, _, _, _, _, _, _, _, rfl, _⟩ := h; rfl; done) | (obtain ⟨_, _, _, _, _, _, _, _, _, _, _, _, _, _, rfl, _⟩ := h; rfl; done) | (rcases h with h | h <;> first | (obtain ⟨_, rfl, _⟩ := h; rfl; done) | (obtain ⟨_, _, rfl, _⟩ := h; rfl; done) | (obtain ⟨_, _, _, rfl, _⟩ := h; rfl; done) | (obtain ⟨_, _, _, _, rfl, _⟩ := h; rfl; done) | (obtain ⟨_, _, _, _, _, rfl, _⟩ := h; rfl; done) | (obtain ⟨_, _, _, _, _, _, rfl, _⟩ := h; rfl; done) | (obtain ⟨_, _, _, _, _, _, _, rfl, _⟩ := h; rfl; done) | (obtain ⟨_, _, _, _, _, _, _, _, rfl, _⟩ := h; rfl; done) | (obtain ⟨_, _, _, _, _, _, _, _, _, rfl, _⟩ := h; rfl; done) | (obtain ⟨_, _, _, _, _, _, _, _, _, _, rfl, _⟩ := h; rfl; done) | (obtain ⟨_, _, _, _, _, _, _, _, _, _, _, rfl, _⟩ := h; rfl; done) | (obtain ⟨_, _, _, _, _, _, _, _, _, _, _, _, rfl, _⟩ := h; rfl; done) | (obtain ⟨_, _, _, _, _, _, _, _, _, _, _, _, _, rfl, _⟩ := h; rfl; done) | (obtain ⟨_, _, _, _, _, _, _, _, _, _, _, _, _, _, rfl, _⟩ := h; rfl; done))) (rd_isRow K (L := [P__is_row, P__has_shape, P__leads_on, P_lets_chart]) (P := P__is_row))
  have k__has_shape := dv__has_shape (P := P) (w := w) (b := b) (mg := mg) (sp := spShape K [P__is_row, P__has_shape, P__leads_on, P_lets_chart] P__has_shape) F__has_shape rfl TB__has_shape (PySem.W.mg_none_of X G no_isinstance) (PySem.W.mg_none_of X G no_tuple) (PySem.W.mg_none_of X G no_len) (PySem.W.mg_none_of X G no_all) F__is_row k__is_row (by intro vs H Q E h; first | (obtain ⟨_, rfl, _⟩ := h; rfl; done) | (obtain ⟨_, _, rfl, _⟩ := h; rfl; done) | (obtain ⟨_, _, _, rfl, _⟩ := h; rfl; done) | (obtain ⟨_, _, _, _, rfl, _⟩ := h; rfl; done) | (obtain ⟨_, _, _, _, _, rfl, _⟩ := h; rfl; done) | (obtain ⟨_, _, _, _, _, _, rfl, _⟩ := h; rfl; done) | (obtain ⟨_, _, _, _, _, _, _, rfl, _⟩ := h; rfl; done) | (obtain ⟨_, _, _, _, _, _, _, _, rfl, _⟩ := h; rfl; done) | (obtain ⟨_, _, _, _, _, _, _, _, _, rfl, _⟩ := h; rfl; done) | (obtain ⟨_, _, _, _, _, _, _, _, _, _, rfl, _⟩ := h; rfl; done) | (obtain ⟨_, _, _, _, _, _, _, _, _, _, _, rfl, _⟩ := h; rfl; done) | (obtain ⟨_, _, _, _, _, _, _, _, _, _, _, _, rfl, _⟩ := h; rfl; done) | (obtain ⟨_, _, _, _, _, _, _, _, _, _, _, _, _, rfl, _⟩ := h; rfl; done) | (obtain ⟨_, _, _, _, _, _, _, _, _, _, _, _, _, _, rfl, _⟩ := h; rfl; done) | (rcases h with h | h <;> first | (obtain ⟨_, rfl, _⟩ := h; rfl; done) | (obtain ⟨_, _, rfl, _⟩ := h; rfl; done) | (obtain ⟨_, _, _, rfl, _⟩ := h; rfl; done) | (obtain ⟨_, _, _, _, rfl, _⟩ := h; rfl; done) | (obtain ⟨_, _, _, _, _, rfl, _⟩ := h; rfl; done) | (obtain ⟨_, _, _, _, _, _, rfl, _⟩ := h; rfl; done) | (obtain ⟨_, _, _, _, _, _, _, rfl, _⟩ := h; rfl; done) | (obtain ⟨_, _, _, _, _, _, _, _, rfl, _⟩ := h; rfl; done) | (obtain ⟨_, _, _, _, _, _, _, _, _, rfl, _⟩ := h; rfl; done) | (obtain ⟨_, _, _, _, _, _, _, _, _, _, rfl, _⟩ := h; rfl; done) | (obtain ⟨_, _, _, _, _, _, _, _, _, _, _, rfl, _⟩ := h; rfl; done) | (obtain ⟨_, _, _, _, _, _, _, _, _, _, _, _, rfl, _⟩ := h; rfl; done) | (obtain ⟨_, _, _, _, _, _, _, _, _, _, _, _, _, rfl, _⟩ := h; rfl; done) | (obtain ⟨_, _, _, _, _, _, _, _, _, _, _, _, _, _, rfl, _⟩ := h; rfl; done))) (rd_shape K (L := [P__is_row, P__has_shape, P__leads_on, P_lets_chart]) (P := P__has_shape) (P2 := P__is_row) (by simp))
  have k__leads_on := dv__leads_on (P := P) (w := w) (b := b) (mg := mg) (sp := spLeads [P__is_row, P__has_shape, P__leads_on, P_lets_chart] P__leads_on) F__leads_on rfl TB__leads_on (PySem.W.mg_none_of X G no_any) F_is_least k_is_least (by intro vs H Q E h; first | (obtain ⟨_, rfl, _⟩ := h; rfl; done) | (obtain ⟨_, _, rfl, _⟩ := h; rfl; done) | (obtain ⟨_, _, _, rfl, _⟩ := h; rfl; done) | (obtain ⟨_, _, _, _, rfl, _⟩ := h; rfl; done) | (obtain ⟨_, _, _, _, _, rfl, _⟩ := h; rfl; done) | (obtain ⟨_, _, _, _, _, _, rfl, _⟩ := h; rfl; done) | (obtain ⟨_, _, _, _, _, _, _, rfl, _⟩ := h; rfl; done) | (obtain ⟨_, _, _, _, _, _, _, _, rfl, _⟩ := h; rfl; done) | (obtain ⟨_, _, _, _, _, _, _, _, _, rfl, _⟩ := h; rfl; done) | (obtain ⟨_, _, _, _, _, _, _, _, _, _, rfl, _⟩ := h; rfl; done) | (obtain ⟨_, _, _, _, _, _, _, _, _, _, _, rfl, _⟩ := h; rfl; done) | (obtain ⟨_, _, _, _, _, _, _, _, _, _, _, _, rfl, _⟩ := h; rfl; done) | (obtain ⟨_, _, _, _, _, _, _, _, _, _, _, _, _, rfl, _⟩ := h; rfl; done) | (obtain ⟨_, _, _, _, _, _, _, _, _, _, _, _, _, _, rfl, _⟩ := h; rfl; done) | (rcases h with h | h <;> first | (obtain ⟨_, rfl, _⟩ := h; rfl; done) | (obtain ⟨_, _, rfl, _⟩ := h; rfl; done) | (obtain ⟨_, _, _, rfl, _⟩ := h; rfl; done) | (obtain ⟨_, _, _, _, rfl, _⟩ := h; rfl; done) | (obtain ⟨_, _, _, _, _, rfl, _⟩ := h; rfl; done) | (obtain ⟨_, _, _, _, _, _, rfl, _⟩ := h; rfl; done) | (obtain ⟨_, _, _, _, _, _, _, rfl, _⟩ := h; rfl; done) | (obtain ⟨_, _, _, _, _, _, _, _, rfl, _⟩ := h; rfl; done) | (obtain ⟨_, _, _, _, _, _, _, _, _, rfl, _⟩ := h; rfl; done) | (obtain ⟨_, _, _, _, _, _, _, _, _, _, rfl, _⟩ := h; rfl; done) | (obtain ⟨_, _, _, _, _, _, _, _, _, _, _, rfl, _⟩ := h; rfl; done) | (obtain ⟨_, _, _, _, _, _, _, _, _, _, _, _, rfl, _⟩ := h; rfl; done) | (obtain ⟨_, _, _, _, _, _, _, _, _, _, _, _, _, rfl, _⟩ := h; rfl; done) | (obtain ⟨_, _, _, _, _, _, _, _, _, _, _, _, _, _, rfl, _⟩ := h; rfl; done))) (rd_leads K (L := [P__is_row, P__has_shape, P__leads_on, P_lets_chart]) (P := P__leads_on))
  have k__is_slack := dv__is_slack (P := P) (w := w) (b := b) (mg := mg) (sp := spSlack [P__is_row, P__has_shape, P__leads_on, P_lets_chart] P__leads_on) F__is_slack (PySem.W.mg_none_of X G no_enumerate) F__leads_on k__leads_on (by intro vs H Q E h; first | (obtain ⟨_, rfl, _⟩ := h; rfl; done) | (obtain ⟨_, _, rfl, _⟩ := h; rfl; done) | (obtain ⟨_, _, _, rfl, _⟩ := h; rfl; done) | (obtain ⟨_, _, _, _, rfl, _⟩ := h; rfl; done) | (obtain ⟨_, _, _, _, _, rfl, _⟩ := h; rfl; done) | (obtain ⟨_, _, _, _, _, _, rfl, _⟩ := h; rfl; done) | (obtain ⟨_, _, _, _, _, _, _, rfl, _⟩ := h; rfl; done) | (obtain ⟨_, _, _, _, _, _, _, _, rfl, _⟩ := h; rfl; done) | (obtain ⟨_, _, _, _, _, _, _, _, _, rfl, _⟩ := h; rfl; done) | (obtain ⟨_, _, _, _, _, _, _, _, _, _, rfl, _⟩ := h; rfl; done) | (obtain ⟨_, _, _, _, _, _, _, _, _, _, _, rfl, _⟩ := h; rfl; done) | (obtain ⟨_, _, _, _, _, _, _, _, _, _, _, _, rfl, _⟩ := h; rfl; done) | (obtain ⟨_, _, _, _, _, _, _, _, _, _, _, _, _, rfl, _⟩ := h; rfl; done) | (obtain ⟨_, _, _, _, _, _, _, _, _, _, _, _, _, _, rfl, _⟩ := h; rfl; done) | (rcases h with h | h <;> first | (obtain ⟨_, rfl, _⟩ := h; rfl; done) | (obtain ⟨_, _, rfl, _⟩ := h; rfl; done) | (obtain ⟨_, _, _, rfl, _⟩ := h; rfl; done) | (obtain ⟨_, _, _, _, rfl, _⟩ := h; rfl; done) | (obtain ⟨_, _, _, _, _, rfl, _⟩ := h; rfl; done) | (obtain ⟨_, _, _, _, _, _, rfl, _⟩ := h; rfl; done) | (obtain ⟨_, _, _, _, _, _, _, rfl, _⟩ := h; rfl; done) | (obtain ⟨_, _, _, _, _, _, _, _, rfl, _⟩ := h; rfl; done) | (obtain ⟨_, _, _, _, _, _, _, _, _, rfl, _⟩ := h; rfl; done) | (obtain ⟨_, _, _, _, _, _, _, _, _, _, rfl, _⟩ := h; rfl; done) | (obtain ⟨_, _, _, _, _, _, _, _, _, _, _, rfl, _⟩ := h; rfl; done) | (obtain ⟨_, _, _, _, _, _, _, _, _, _, _, _, rfl, _⟩ := h; rfl; done) | (obtain ⟨_, _, _, _, _, _, _, _, _, _, _, _, _, rfl, _⟩ := h; rfl; done) | (obtain ⟨_, _, _, _, _, _, _, _, _, _, _, _, _, _, rfl, _⟩ := h; rfl; done))) (rd_slack K (L := [P__is_row, P__has_shape, P__leads_on, P_lets_chart]) (P := P__leads_on))
  have k_lets_chart := dv_lets_chart (P := P) (w := w) (b := b) (mg := mg) (sp := spLets K c_NoPaper [P__is_row, P__has_shape, P__leads_on, P_lets_chart] P_lets_chart) F_lets_chart (PySem.W.mg_of X G ad_NoPaper) rfl TB_lets_chart F__has_shape k__has_shape (PySem.W.mg_none_of X G no_len) T_NoPaper fi_NoPaper____init__ (beq_iff_eq.mp ifn_NoPaper____init__) F_NoPaper____init__.b Fi_NoPaper (PySem.W.mg_none_of X G no_enumerate) F_drives_of k_drives_of (PySem.W.mg_none_of X G no_any) F_is_steep k_is_steep (PySem.W.mg_none_of X G no_range) F__is_slack k__is_slack (by intro vs H Q E h; first | (obtain ⟨_, rfl, _⟩ := h; rfl; done) | (obtain ⟨_, _, rfl, _⟩ := h; rfl; done) | (obtain ⟨_, _, _, rfl, _⟩ := h; rfl; done) | (obtain ⟨_, _, _, _, rfl, _⟩ := h; rfl; done) | (obtain ⟨_, _, _, _, _, rfl, _⟩ := h; rfl; done) | (obtain ⟨_, _, _, _, _, _, rfl, _⟩ := h; rfl; done) | (obtain ⟨_, _, _, _, _, _, _, rfl, _⟩ := h; rfl; done) | (obtain ⟨_, _, _, _, _, _, _, _, rfl, _⟩ := h; rfl; done) | (obtain ⟨_, _, _, _, _, _, _, _, _, rfl, _⟩ := h; rfl; done) | (obtain ⟨_, _, _, _, _, _, _, _, _, _, rfl, _⟩ := h; rfl; done) | (obtain ⟨_, _, _, _, _, _, _, _, _, _, _, rfl, _⟩ := h; rfl; done) | (obtain ⟨_, _, _, _, _, _, _, _, _, _, _, _, rfl, _⟩ := h; rfl; done) | (obtain ⟨_, _, _, _, _, _, _, _, _, _, _, _, _, rfl, _⟩ := h; rfl; done) | (obtain ⟨_, _, _, _, _, _, _, _, _, _, _, _, _, _, rfl, _⟩ := h; rfl; done) | (rcases h with h | h <;> first | (obtain ⟨_, rfl, _⟩ := h; rfl; done) | (obtain ⟨_, _, rfl, _⟩ := h; rfl; done) | (obtain ⟨_, _, _, rfl, _⟩ := h; rfl; done) | (obtain ⟨_, _, _, _, rfl, _⟩ := h; rfl; done) | (obtain ⟨_, _, _, _, _, rfl, _⟩ := h; rfl; done) | (obtain ⟨_, _, _, _, _, _, rfl, _⟩ := h; rfl; done) | (obtain ⟨_, _, _, _, _, _, _, rfl, _⟩ := h; rfl; done) | (obtain ⟨_, _, _, _, _, _, _, _, rfl, _⟩ := h; rfl; done) | (obtain ⟨_, _, _, _, _, _, _, _, _, rfl, _⟩ := h; rfl; done) | (obtain ⟨_, _, _, _, _, _, _, _, _, _, rfl, _⟩ := h; rfl; done) | (obtain ⟨_, _, _, _, _, _, _, _, _, _, _, rfl, _⟩ := h; rfl; done) | (obtain ⟨_, _, _, _, _, _, _, _, _, _, _, _, rfl, _⟩ := h; rfl; done) | (obtain ⟨_, _, _, _, _, _, _, _, _, _, _, _, _, rfl, _⟩ := h; rfl; done) | (obtain ⟨_, _, _, _, _, _, _, _, _, _, _, _, _, _, rfl, _⟩ := h; rfl; done))) (rd_lets K (CN := c_NoPaper) (L := [P__is_row, P__has_shape, P__leads_on, P_lets_chart]) (P := P_lets_chart) (P1 := P__has_shape) (P2 := P__leads_on) (by simp) (by simp))
  have k__law_cell_at := dv__law_cell_at (P := P) (w := w) (b := b) (mg := mg) (sp := spCell K) F__law_cell_at (PySem.W.mg_none_of X G no_len) (by intro vs H Q E h; first | (obtain ⟨_, rfl, _⟩ := h; rfl; done) | (obtain ⟨_, _, rfl, _⟩ := h; rfl; done) | (obtain ⟨_, _, _, rfl, _⟩ := h; rfl; done) | (obtain ⟨_, _, _, _, rfl, _⟩ := h; rfl; done) | (obtain ⟨_, _, _, _, _, rfl, _⟩ := h; rfl; done) | (obtain ⟨_, _, _, _, _, _, rfl, _⟩ := h; rfl; done) | (obtain ⟨_, _, _, _, _, _, _, rfl, _⟩ := h; rfl; done) | (obtain ⟨_, _, _, _, _, _, _, _, rfl, _⟩ := h; rfl; done) | (obtain ⟨_, _, _, _, _, _, _, _, _, rfl, _⟩ := h; rfl; done) | (obtain ⟨_, _, _, _, _, _, _, _, _, _, rfl, _⟩ := h; rfl; done) | (obtain ⟨_, _, _, _, _, _, _, _, _, _, _, rfl, _⟩ := h; rfl; done) | (obtain ⟨_, _, _, _, _, _, _, _, _, _, _, _, rfl, _⟩ := h; rfl; done) | (obtain ⟨_, _, _, _, _, _, _, _, _, _, _, _, _, rfl, _⟩ := h; rfl; done) | (obtain ⟨_, _, _, _, _, _, _, _, _, _, _, _, _, _, rfl, _⟩ := h; rfl; done) | (rcases h with h | h <;> first | (obtain ⟨_, rfl, _⟩ := h; rfl; done) | (obtain ⟨_, _, rfl, _⟩ := h; rfl; done) | (obtain ⟨_, _, _, rfl, _⟩ := h; rfl; done) | (obtain ⟨_, _, _, _, rfl, _⟩ := h; rfl; done) | (obtain ⟨_, _, _, _, _, rfl, _⟩ := h; rfl; done) | (obtain ⟨_, _, _, _, _, _, rfl, _⟩ := h; rfl; done) | (obtain ⟨_, _, _, _, _, _, _, rfl, _⟩ := h; rfl; done) | (obtain ⟨_, _, _, _, _, _, _, _, rfl, _⟩ := h; rfl; done) | (obtain ⟨_, _, _, _, _, _, _, _, _, rfl, _⟩ := h; rfl; done) | (obtain ⟨_, _, _, _, _, _, _, _, _, _, rfl, _⟩ := h; rfl; done) | (obtain ⟨_, _, _, _, _, _, _, _, _, _, _, rfl, _⟩ := h; rfl; done) | (obtain ⟨_, _, _, _, _, _, _, _, _, _, _, _, rfl, _⟩ := h; rfl; done) | (obtain ⟨_, _, _, _, _, _, _, _, _, _, _, _, _, rfl, _⟩ := h; rfl; done) | (obtain ⟨_, _, _, _, _, _, _, _, _, _, _, _, _, _, rfl, _⟩ := h; rfl; done))) (rd_cell K)
  have k__law_row := dv__law_row (P := P) (w := w) (b := b) (mg := mg) (sp := spRow) F__law_row (PySem.W.mg_none_of X G no_abs) (PySem.W.mg_none_of X G no_range) (by intro vs H Q E h; first | (obtain ⟨_, rfl, _⟩ := h; rfl; done) | (obtain ⟨_, _, rfl, _⟩ := h; rfl; done) | (obtain ⟨_, _, _, rfl, _⟩ := h; rfl; done) | (obtain ⟨_, _, _, _, rfl, _⟩ := h; rfl; done) | (obtain ⟨_, _, _, _, _, rfl, _⟩ := h; rfl; done) | (obtain ⟨_, _, _, _, _, _, rfl, _⟩ := h; rfl; done) | (obtain ⟨_, _, _, _, _, _, _, rfl, _⟩ := h; rfl; done) | (obtain ⟨_, _, _, _, _, _, _, _, rfl, _⟩ := h; rfl; done) | (obtain ⟨_, _, _, _, _, _, _, _, _, rfl, _⟩ := h; rfl; done) | (obtain ⟨_, _, _, _, _, _, _, _, _, _, rfl, _⟩ := h; rfl; done) | (obtain ⟨_, _, _, _, _, _, _, _, _, _, _, rfl, _⟩ := h; rfl; done) | (obtain ⟨_, _, _, _, _, _, _, _, _, _, _, _, rfl, _⟩ := h; rfl; done) | (obtain ⟨_, _, _, _, _, _, _, _, _, _, _, _, _, rfl, _⟩ := h; rfl; done) | (obtain ⟨_, _, _, _, _, _, _, _, _, _, _, _, _, _, rfl, _⟩ := h; rfl; done) | (rcases h with h | h <;> first | (obtain ⟨_, rfl, _⟩ := h; rfl; done) | (obtain ⟨_, _, rfl, _⟩ := h; rfl; done) | (obtain ⟨_, _, _, rfl, _⟩ := h; rfl; done) | (obtain ⟨_, _, _, _, rfl, _⟩ := h; rfl; done) | (obtain ⟨_, _, _, _, _, rfl, _⟩ := h; rfl; done) | (obtain ⟨_, _, _, _, _, _, rfl, _⟩ := h; rfl; done) | (obtain ⟨_, _, _, _, _, _, _, rfl, _⟩ := h; rfl; done) | (obtain ⟨_, _, _, _, _, _, _, _, rfl, _⟩ := h; rfl; done) | (obtain ⟨_, _, _, _, _, _, _, _, _, rfl, _⟩ := h; rfl; done) | (obtain ⟨_, _, _, _, _, _, _, _, _, _, rfl, _⟩ := h; rfl; done) | (obtain ⟨_, _, _, _, _, _, _, _, _, _, _, rfl, _⟩ := h; rfl; done) | (obtain ⟨_, _, _, _, _, _, _, _, _, _, _, _, rfl, _⟩ := h; rfl; done) | (obtain ⟨_, _, _, _, _, _, _, _, _, _, _, _, _, rfl, _⟩ := h; rfl; done) | (obtain ⟨_, _, _, _, _, _, _, _, _, _, _, _, _, _, rfl, _⟩ := h; rfl; done))) (rd_row K)
  have k__law_names := dv__law_names (P := P) (w := w) (b := b) (mg := mg) (sp := spNames) F__law_names (PySem.W.mg_none_of X G no_range) (PySem.W.mg_none_of X G no_int) (PySem.W.mg_none_of X G no_len) (by intro vs H Q E h; first | (obtain ⟨_, rfl, _⟩ := h; rfl; done) | (obtain ⟨_, _, rfl, _⟩ := h; rfl; done) | (obtain ⟨_, _, _, rfl, _⟩ := h; rfl; done) | (obtain ⟨_, _, _, _, rfl, _⟩ := h; rfl; done) | (obtain ⟨_, _, _, _, _, rfl, _⟩ := h; rfl; done) | (obtain ⟨_, _, _, _, _, _, rfl, _⟩ := h; rfl; done) | (obtain ⟨_, _, _, _, _, _, _, rfl, _⟩ := h; rfl; done) | (obtain ⟨_, _, _, _, _, _, _, _, rfl, _⟩ := h; rfl; done) | (obtain ⟨_, _, _, _, _, _, _, _, _, rfl, _⟩ := h; rfl; done) | (obtain ⟨_, _, _, _, _, _, _, _, _, _, rfl, _⟩ := h; rfl; done) | (obtain ⟨_, _, _, _, _, _, _, _, _, _, _, rfl, _⟩ := h; rfl; done) | (obtain ⟨_, _, _, _, _, _, _, _, _, _, _, _, rfl, _⟩ := h; rfl; done) | (obtain ⟨_, _, _, _, _, _, _, _, _, _, _, _, _, rfl, _⟩ := h; rfl; done) | (obtain ⟨_, _, _, _, _, _, _, _, _, _, _, _, _, _, rfl, _⟩ := h; rfl; done) | (rcases h with h | h <;> first | (obtain ⟨_, rfl, _⟩ := h; rfl; done) | (obtain ⟨_, _, rfl, _⟩ := h; rfl; done) | (obtain ⟨_, _, _, rfl, _⟩ := h; rfl; done) | (obtain ⟨_, _, _, _, rfl, _⟩ := h; rfl; done) | (obtain ⟨_, _, _, _, _, rfl, _⟩ := h; rfl; done) | (obtain ⟨_, _, _, _, _, _, rfl, _⟩ := h; rfl; done) | (obtain ⟨_, _, _, _, _, _, _, rfl, _⟩ := h; rfl; done) | (obtain ⟨_, _, _, _, _, _, _, _, rfl, _⟩ := h; rfl; done) | (obtain ⟨_, _, _, _, _, _, _, _, _, rfl, _⟩ := h; rfl; done) | (obtain ⟨_, _, _, _, _, _, _, _, _, _, rfl, _⟩ := h; rfl; done) | (obtain ⟨_, _, _, _, _, _, _, _, _, _, _, rfl, _⟩ := h; rfl; done) | (obtain ⟨_, _, _, _, _, _, _, _, _, _, _, _, rfl, _⟩ := h; rfl; done) | (obtain ⟨_, _, _, _, _, _, _, _, _, _, _, _, _, rfl, _⟩ := h; rfl; done) | (obtain ⟨_, _, _, _, _, _, _, _, _, _, _, _, _, _, rfl, _⟩ := h; rfl; done))) (rd_names K)
  have k__law_road := dv__law_road (P := P) (w := w) (b := b) (mg := mg) (sp := spRoad) F__law_road (PySem.W.mg_none_of X G no_len) (PySem.W.mg_none_of X G no_int) (by intro vs H Q E h; first | (obtain ⟨_, rfl, _⟩ := h; rfl; done) | (obtain ⟨_, _, rfl, _⟩ := h; rfl; done) | (obtain ⟨_, _, _, rfl, _⟩ := h; rfl; done) | (obtain ⟨_, _, _, _, rfl, _⟩ := h; rfl; done) | (obtain ⟨_, _, _, _, _, rfl, _⟩ := h; rfl; done) | (obtain ⟨_, _, _, _, _, _, rfl, _⟩ := h; rfl; done) | (obtain ⟨_, _, _, _, _, _, _, rfl, _⟩ := h; rfl; done) | (obtain ⟨_, _, _, _, _, _, _, _, rfl, _⟩ := h; rfl; done) | (obtain ⟨_, _, _, _, _, _, _, _, _, rfl, _⟩ := h; rfl; done) | (obtain ⟨_, _, _, _, _, _, _, _, _, _, rfl, _⟩ := h; rfl; done) | (obtain ⟨_, _, _, _, _, _, _, _, _, _, _, rfl, _⟩ := h; rfl; done) | (obtain ⟨_, _, _, _, _, _, _, _, _, _, _, _, rfl, _⟩ := h; rfl; done) | (obtain ⟨_, _, _, _, _, _, _, _, _, _, _, _, _, rfl, _⟩ := h; rfl; done) | (obtain ⟨_, _, _, _, _, _, _, _, _, _, _, _, _, _, rfl, _⟩ := h; rfl; done) | (rcases h with h | h <;> first | (obtain ⟨_, rfl, _⟩ := h; rfl; done) | (obtain ⟨_, _, rfl, _⟩ := h; rfl; done) | (obtain ⟨_, _, _, rfl, _⟩ := h; rfl; done) | (obtain ⟨_, _, _, _, rfl, _⟩ := h; rfl; done) | (obtain ⟨_, _, _, _, _, rfl, _⟩ := h; rfl; done) | (obtain ⟨_, _, _, _, _, _, rfl, _⟩ := h; rfl; done) | (obtain ⟨_, _, _, _, _, _, _, rfl, _⟩ := h; rfl; done) | (obtain ⟨_, _, _, _, _, _, _, _, rfl, _⟩ := h; rfl; done) | (obtain ⟨_, _, _, _, _, _, _, _, _, rfl, _⟩ := h; rfl; done) | (obtain ⟨_, _, _, _, _, _, _, _, _, _, rfl, _⟩ := h; rfl; done) | (obtain ⟨_, _, _, _, _, _, _, _, _, _, _, rfl, _⟩ := h; rfl; done) | (obtain ⟨_, _, _, _, _, _, _, _, _, _, _, _, rfl, _⟩ := h; rfl; done) | (obtain ⟨_, _, _, _, _, _, _, _, _, _, _, _, _, rfl, _⟩ := h; rfl; done) | (obtain ⟨_, _, _, _, _, _, _, _, _, _, _, _, _, _, rfl, _⟩ := h; rfl; done))) (rd_road K)
  have k__law_town := dv__law_town (P := P) (w := w) (b := b) (mg := mg) (sp := spTown K) F__law_town F__law_row k__law_row F__law_cell_at k__law_cell_at F__law_names k__law_names (PySem.W.mg_none_of X G no_len) F__law_road k__law_road (PySem.W.mg_none_of X G no_min) (PySem.W.mg_none_of X G no_tuple) (by intro vs H Q E h; first | (obtain ⟨_, rfl, _⟩ := h; rfl; done) | (obtain ⟨_, _, rfl, _⟩ := h; rfl; done) | (obtain ⟨_, _, _, rfl, _⟩ := h; rfl; done) | (obtain ⟨_, _, _, _, rfl, _⟩ := h; rfl; done) | (obtain ⟨_, _, _, _, _, rfl, _⟩ := h; rfl; done) | (obtain ⟨_, _, _, _, _, _, rfl, _⟩ := h; rfl; done) | (obtain ⟨_, _, _, _, _, _, _, rfl, _⟩ := h; rfl; done) | (obtain ⟨_, _, _, _, _, _, _, _, rfl, _⟩ := h; rfl; done) | (obtain ⟨_, _, _, _, _, _, _, _, _, rfl, _⟩ := h; rfl; done) | (obtain ⟨_, _, _, _, _, _, _, _, _, _, rfl, _⟩ := h; rfl; done) | (obtain ⟨_, _, _, _, _, _, _, _, _, _, _, rfl, _⟩ := h; rfl; done) | (obtain ⟨_, _, _, _, _, _, _, _, _, _, _, _, rfl, _⟩ := h; rfl; done) | (obtain ⟨_, _, _, _, _, _, _, _, _, _, _, _, _, rfl, _⟩ := h; rfl; done) | (obtain ⟨_, _, _, _, _, _, _, _, _, _, _, _, _, _, rfl, _⟩ := h; rfl; done) | (rcases h with h | h <;> first | (obtain ⟨_, rfl, _⟩ := h; rfl; done) | (obtain ⟨_, _, rfl, _⟩ := h; rfl; done) | (obtain ⟨_, _, _, rfl, _⟩ := h; rfl; done) | (obtain ⟨_, _, _, _, rfl, _⟩ := h; rfl; done) | (obtain ⟨_, _, _, _, _, rfl, _⟩ := h; rfl; done) | (obtain ⟨_, _, _, _, _, _, rfl, _⟩ := h; rfl; done) | (obtain ⟨_, _, _, _, _, _, _, rfl, _⟩ := h; rfl; done) | (obtain ⟨_, _, _, _, _, _, _, _, rfl, _⟩ := h; rfl; done) | (obtain ⟨_, _, _, _, _, _, _, _, _, rfl, _⟩ := h; rfl; done) | (obtain ⟨_, _, _, _, _, _, _, _, _, _, rfl, _⟩ := h; rfl; done) | (obtain ⟨_, _, _, _, _, _, _, _, _, _, _, rfl, _⟩ := h; rfl; done) | (obtain ⟨_, _, _, _, _, _, _, _, _, _, _, _, rfl, _⟩ := h; rfl; done) | (obtain ⟨_, _, _, _, _, _, _, _, _, _, _, _, _, rfl, _⟩ := h; rfl; done) | (obtain ⟨_, _, _, _, _, _, _, _, _, _, _, _, _, _, rfl, _⟩ := h; rfl; done))) (rd_town K)
  have k__law_shut := dv__law_shut (P := P) (w := w) (b := b) (mg := mg) (sp := spShut) F__law_shut F__law_row k__law_row (PySem.W.mg_none_of X G no_tuple) (PySem.W.mg_none_of X G no_range) (PySem.W.mg_none_of X G no_len) (by intro vs H Q E h; first | (obtain ⟨_, rfl, _⟩ := h; rfl; done) | (obtain ⟨_, _, rfl, _⟩ := h; rfl; done) | (obtain ⟨_, _, _, rfl, _⟩ := h; rfl; done) | (obtain ⟨_, _, _, _, rfl, _⟩ := h; rfl; done) | (obtain ⟨_, _, _, _, _, rfl, _⟩ := h; rfl; done) | (obtain ⟨_, _, _, _, _, _, rfl, _⟩ := h; rfl; done) | (obtain ⟨_, _, _, _, _, _, _, rfl, _⟩ := h; rfl; done) | (obtain ⟨_, _, _, _, _, _, _, _, rfl, _⟩ := h; rfl; done) | (obtain ⟨_, _, _, _, _, _, _, _, _, rfl, _⟩ := h; rfl; done) | (obtain ⟨_, _, _, _, _, _, _, _, _, _, rfl, _⟩ := h; rfl; done) | (obtain ⟨_, _, _, _, _, _, _, _, _, _, _, rfl, _⟩ := h; rfl; done) | (obtain ⟨_, _, _, _, _, _, _, _, _, _, _, _, rfl, _⟩ := h; rfl; done) | (obtain ⟨_, _, _, _, _, _, _, _, _, _, _, _, _, rfl, _⟩ := h; rfl; done) | (obtain ⟨_, _, _, _, _, _, _, _, _, _, _, _, _, _, rfl, _⟩ := h; rfl; done) | (rcases h with h | h <;> first | (obtain ⟨_, rfl, _⟩ := h; rfl; done) | (obtain ⟨_, _, rfl, _⟩ := h; rfl; done) | (obtain ⟨_, _, _, rfl, _⟩ := h; rfl; done) | (obtain ⟨_, _, _, _, rfl, _⟩ := h; rfl; done) | (obtain ⟨_, _, _, _, _, rfl, _⟩ := h; rfl; done) | (obtain ⟨_, _, _, _, _, _, rfl, _⟩ := h; rfl; done) | (obtain ⟨_, _, _, _, _, _, _, rfl, _⟩ := h; rfl; done) | (obtain ⟨_, _, _, _, _, _, _, _, rfl, _⟩ := h; rfl; done) | (obtain ⟨_, _, _, _, _, _, _, _, _, rfl, _⟩ := h; rfl; done) | (obtain ⟨_, _, _, _, _, _, _, _, _, _, rfl, _⟩ := h; rfl; done) | (obtain ⟨_, _, _, _, _, _, _, _, _, _, _, rfl, _⟩ := h; rfl; done) | (obtain ⟨_, _, _, _, _, _, _, _, _, _, _, _, rfl, _⟩ := h; rfl; done) | (obtain ⟨_, _, _, _, _, _, _, _, _, _, _, _, _, rfl, _⟩ := h; rfl; done) | (obtain ⟨_, _, _, _, _, _, _, _, _, _, _, _, _, _, rfl, _⟩ := h; rfl; done))) (rd_shut K)
  have k__law_steps := dv__law_steps (P := P) (w := w) (b := b) (mg := mg) (sp := spSteps) F__law_steps (PySem.W.mg_none_of X G no_range) (PySem.W.mg_none_of X G no_len) (by intro vs H Q E h; first | (obtain ⟨_, rfl, _⟩ := h; rfl; done) | (obtain ⟨_, _, rfl, _⟩ := h; rfl; done) | (obtain ⟨_, _, _, rfl, _⟩ := h; rfl; done) | (obtain ⟨_, _, _, _, rfl, _⟩ := h; rfl; done) | (obtain ⟨_, _, _, _, _, rfl, _⟩ := h; rfl; done) | (obtain ⟨_, _, _, _, _, _, rfl, _⟩ := h; rfl; done) | (obtain ⟨_, _, _, _, _, _, _, rfl, _⟩ := h; rfl; done) | (obtain ⟨_, _, _, _, _, _, _, _, rfl, _⟩ := h; rfl; done) | (obtain ⟨_, _, _, _, _, _, _, _, _, rfl, _⟩ := h; rfl; done) | (obtain ⟨_, _, _, _, _, _, _, _, _, _, rfl, _⟩ := h; rfl; done) | (obtain ⟨_, _, _, _, _, _, _, _, _, _, _, rfl, _⟩ := h; rfl; done) | (obtain ⟨_, _, _, _, _, _, _, _, _, _, _, _, rfl, _⟩ := h; rfl; done) | (obtain ⟨_, _, _, _, _, _, _, _, _, _, _, _, _, rfl, _⟩ := h; rfl; done) | (obtain ⟨_, _, _, _, _, _, _, _, _, _, _, _, _, _, rfl, _⟩ := h; rfl; done) | (rcases h with h | h <;> first | (obtain ⟨_, rfl, _⟩ := h; rfl; done) | (obtain ⟨_, _, rfl, _⟩ := h; rfl; done) | (obtain ⟨_, _, _, rfl, _⟩ := h; rfl; done) | (obtain ⟨_, _, _, _, rfl, _⟩ := h; rfl; done) | (obtain ⟨_, _, _, _, _, rfl, _⟩ := h; rfl; done) | (obtain ⟨_, _, _, _, _, _, rfl, _⟩ := h; rfl; done) | (obtain ⟨_, _, _, _, _, _, _, rfl, _⟩ := h; rfl; done) | (obtain ⟨_, _, _, _, _, _, _, _, rfl, _⟩ := h; rfl; done) | (obtain ⟨_, _, _, _, _, _, _, _, _, rfl, _⟩ := h; rfl; done) | (obtain ⟨_, _, _, _, _, _, _, _, _, _, rfl, _⟩ := h; rfl; done) | (obtain ⟨_, _, _, _, _, _, _, _, _, _, _, rfl, _⟩ := h; rfl; done) | (obtain ⟨_, _, _, _, _, _, _, _, _, _, _, _, rfl, _⟩ := h; rfl; done) | (obtain ⟨_, _, _, _, _, _, _, _, _, _, _, _, _, rfl, _⟩ := h; rfl; done) | (obtain ⟨_, _, _, _, _, _, _, _, _, _, _, _, _, _, rfl, _⟩ := h; rfl; done))) (rd_steps K)
  have k__law_chart := dv__law_chart (P := P) (w := w) (b := b) (mg := mg) (sp := spChart) F__law_chart (PySem.W.mg_none_of X G no_len) (PySem.W.mg_none_of X G no_range) (PySem.W.mg_none_of X G no_int) F__law_steps k__law_steps (PySem.W.mg_none_of X G no_tuple) (by intro vs H Q E h; first | (obtain ⟨_, rfl, _⟩ := h; rfl; done) | (obtain ⟨_, _, rfl, _⟩ := h; rfl; done) | (obtain ⟨_, _, _, rfl, _⟩ := h; rfl; done) | (obtain ⟨_, _, _, _, rfl, _⟩ := h; rfl; done) | (obtain ⟨_, _, _, _, _, rfl, _⟩ := h; rfl; done) | (obtain ⟨_, _, _, _, _, _, rfl, _⟩ := h; rfl; done) | (obtain ⟨_, _, _, _, _, _, _, rfl, _⟩ := h; rfl; done) | (obtain ⟨_, _, _, _, _, _, _, _, rfl, _⟩ := h; rfl; done) | (obtain ⟨_, _, _, _, _, _, _, _, _, rfl, _⟩ := h; rfl; done) | (obtain ⟨_, _, _, _, _, _, _, _, _, _, rfl, _⟩ := h; rfl; done) | (obtain ⟨_, _, _, _, _, _, _, _, _, _, _, rfl, _⟩ := h; rfl; done) | (obtain ⟨_, _, _, _, _, _, _, _, _, _, _, _, rfl, _⟩ := h; rfl; done) | (obtain ⟨_, _, _, _, _, _, _, _, _, _, _, _, _, rfl, _⟩ := h; rfl; done) | (obtain ⟨_, _, _, _, _, _, _, _, _, _, _, _, _, _, rfl, _⟩ := h; rfl; done) | (rcases h with h | h <;> first | (obtain ⟨_, rfl, _⟩ := h; rfl; done) | (obtain ⟨_, _, rfl, _⟩ := h; rfl; done) | (obtain ⟨_, _, _, rfl, _⟩ := h; rfl; done) | (obtain ⟨_, _, _, _, rfl, _⟩ := h; rfl; done) | (obtain ⟨_, _, _, _, _, rfl, _⟩ := h; rfl; done) | (obtain ⟨_, _, _, _, _, _, rfl, _⟩ := h; rfl; done) | (obtain ⟨_, _, _, _, _, _, _, rfl, _⟩ := h; rfl; done) | (obtain ⟨_, _, _, _, _, _, _, _, rfl, _⟩ := h; rfl; done) | (obtain ⟨_, _, _, _, _, _, _, _, _, rfl, _⟩ := h; rfl; done) | (obtain ⟨_, _, _, _, _, _, _, _, _, _, rfl, _⟩ := h; rfl; done) | (obtain ⟨_, _, _, _, _, _, _, _, _, _, _, rfl, _⟩ := h; rfl; done) | (obtain ⟨_, _, _, _, _, _, _, _, _, _, _, _, rfl, _⟩ := h; rfl; done) | (obtain ⟨_, _, _, _, _, _, _, _, _, _, _, _, _, rfl, _⟩ := h; rfl; done) | (obtain ⟨_, _, _, _, _, _, _, _, _, _, _, _, _, _, rfl, _⟩ := h; rfl; done))) (rd_chart K)
  have k__law_verdict := dv__law_verdict (P := P) (w := w) (b := b) (mg := mg) (sp := spVerd) F__law_verdict (PySem.W.mg_none_of X G no_len) (PySem.W.mg_none_of X G no_range) F__law_steps k__law_steps (by intro vs H Q E h; first | (obtain ⟨_, rfl, _⟩ := h; rfl; done) | (obtain ⟨_, _, rfl, _⟩ := h; rfl; done) | (obtain ⟨_, _, _, rfl, _⟩ := h; rfl; done) | (obtain ⟨_, _, _, _, rfl, _⟩ := h; rfl; done) | (obtain ⟨_, _, _, _, _, rfl, _⟩ := h; rfl; done) | (obtain ⟨_, _, _, _, _, _, rfl, _⟩ := h; rfl; done) | (obtain ⟨_, _, _, _, _, _, _, rfl, _⟩ := h; rfl; done) | (obtain ⟨_, _, _, _, _, _, _, _, rfl, _⟩ := h; rfl; done) | (obtain ⟨_, _, _, _, _, _, _, _, _, rfl, _⟩ := h; rfl; done) | (obtain ⟨_, _, _, _, _, _, _, _, _, _, rfl, _⟩ := h; rfl; done) | (obtain ⟨_, _, _, _, _, _, _, _, _, _, _, rfl, _⟩ := h; rfl; done) | (obtain ⟨_, _, _, _, _, _, _, _, _, _, _, _, rfl, _⟩ := h; rfl; done) | (obtain ⟨_, _, _, _, _, _, _, _, _, _, _, _, _, rfl, _⟩ := h; rfl; done) | (obtain ⟨_, _, _, _, _, _, _, _, _, _, _, _, _, _, rfl, _⟩ := h; rfl; done) | (rcases h with h | h <;> first | (obtain ⟨_, rfl, _⟩ := h; rfl; done) | (obtain ⟨_, _, rfl, _⟩ := h; rfl; done) | (obtain ⟨_, _, _, rfl, _⟩ := h; rfl; done) | (obtain ⟨_, _, _, _, rfl, _⟩ := h; rfl; done) | (obtain ⟨_, _, _, _, _, rfl, _⟩ := h; rfl; done) | (obtain ⟨_, _, _, _, _, _, rfl, _⟩ := h; rfl; done) | (obtain ⟨_, _, _, _, _, _, _, rfl, _⟩ := h; rfl; done) | (obtain ⟨_, _, _, _, _, _, _, _, rfl, _⟩ := h; rfl; done) | (obtain ⟨_, _, _, _, _, _, _, _, _, rfl, _⟩ := h; rfl; done) | (obtain ⟨_, _, _, _, _, _, _, _, _, _, rfl, _⟩ := h; rfl; done) | (obtain ⟨_, _, _, _, _, _, _, _, _, _, _, rfl, _⟩ := h; rfl; done) | (obtain ⟨_, _, _, _, _, _, _, _, _, _, _, _, rfl, _⟩ := h; rfl; done) | (obtain ⟨_, _, _, _, _, _, _, _, _, _, _, _, _, rfl, _⟩ := h; rfl; done) | (obtain ⟨_, _, _, _, _, _, _, _, _, _, _, _, _, _, rfl, _⟩ := h; rfl; done))) (rd_verd K)
  have k__law_told := dv__law_told (P := P) (w := w) (b := b) (mg := mg) (sp := spTold K [P__is_row, P__has_shape, P__leads_on, P_lets_chart]) F__law_told (PySem.W.mg_of X G ad_WagonError) (PySem.W.mg_of X G ad_NoDeed) (PySem.W.mg_of X G ad_NoRow) (PySem.W.mg_of X G ad_NoLog) (PySem.W.mg_of X G ad_TooMany) (PySem.W.mg_of X G ad_Late) (PySem.W.mg_of X G ad_NoCall) (PySem.W.mg_of X G ad_NoTelling) (PySem.W.mg_of X G ad_NoMoment) (PySem.W.mg_of X G ad_NoTown) (PySem.W.mg_of X G ad_NoText) (PySem.W.mg_of X G ad_NoPaper) F_lets_chart k_lets_chart (PySem.W.mg_none_of X G no_isinstance) (PySem.W.mg_none_of X G no_ValueError) (PySem.W.mg_none_of X G no_bool) (by intro vs H Q E h; first | (obtain ⟨_, rfl, _⟩ := h; rfl; done) | (obtain ⟨_, _, rfl, _⟩ := h; rfl; done) | (obtain ⟨_, _, _, rfl, _⟩ := h; rfl; done) | (obtain ⟨_, _, _, _, rfl, _⟩ := h; rfl; done) | (obtain ⟨_, _, _, _, _, rfl, _⟩ := h; rfl; done) | (obtain ⟨_, _, _, _, _, _, rfl, _⟩ := h; rfl; done) | (obtain ⟨_, _, _, _, _, _, _, rfl, _⟩ := h; rfl; done) | (obtain ⟨_, _, _, _, _, _, _, _, rfl, _⟩ := h; rfl; done) | (obtain ⟨_, _, _, _, _, _, _, _, _, rfl, _⟩ := h; rfl; done) | (obtain ⟨_, _, _, _, _, _, _, _, _, _, rfl, _⟩ := h; rfl; done) | (obtain ⟨_, _, _, _, _, _, _, _, _, _, _, rfl, _⟩ := h; rfl; done) | (obtain ⟨_, _, _, _, _, _, _, _, _, _, _, _, rfl, _⟩ := h; rfl; done) | (obtain ⟨_, _, _, _, _, _, _, _, _, _, _, _, _, rfl, _⟩ := h; rfl; done) | (obtain ⟨_, _, _, _, _, _, _, _, _, _, _, _, _, _, rfl, _⟩ := h; rfl; done) | (rcases h with h | h <;> first | (obtain ⟨_, rfl, _⟩ := h; rfl; done) | (obtain ⟨_, _, rfl, _⟩ := h; rfl; done) | (obtain ⟨_, _, _, rfl, _⟩ := h; rfl; done) | (obtain ⟨_, _, _, _, rfl, _⟩ := h; rfl; done) | (obtain ⟨_, _, _, _, _, rfl, _⟩ := h; rfl; done) | (obtain ⟨_, _, _, _, _, _, rfl, _⟩ := h; rfl; done) | (obtain ⟨_, _, _, _, _, _, _, rfl, _⟩ := h; rfl; done) | (obtain ⟨_, _, _, _, _, _, _, _, rfl, _⟩ := h; rfl; done) | (obtain ⟨_, _, _, _, _, _, _, _, _, rfl, _⟩ := h; rfl; done) | (obtain ⟨_, _, _, _, _, _, _, _, _, _, rfl, _⟩ := h; rfl; done) | (obtain ⟨_, _, _, _, _, _, _, _, _, _, _, rfl, _⟩ := h; rfl; done) | (obtain ⟨_, _, _, _, _, _, _, _, _, _, _, _, rfl, _⟩ := h; rfl; done) | (obtain ⟨_, _, _, _, _, _, _, _, _, _, _, _, _, rfl, _⟩ := h; rfl; done) | (obtain ⟨_, _, _, _, _, _, _, _, _, _, _, _, _, _, rfl, _⟩ := h; rfl; done))) (rd_told K (L := [P__is_row, P__has_shape, P__leads_on, P_lets_chart]) (P := P_lets_chart) (by simp) pf)
  have k__law_twin := dv__law_twin (P := P) (w := w) (b := b) (mg := mg) (sp := spTwin) F__law_twin (PySem.W.mg_none_of X G no_list) (PySem.W.mg_none_of X G no_len) (PySem.W.mg_none_of X G no_int) (PySem.W.mg_none_of X G no_tuple) (by intro vs H Q E h; first | (obtain ⟨_, rfl, _⟩ := h; rfl; done) | (obtain ⟨_, _, rfl, _⟩ := h; rfl; done) | (obtain ⟨_, _, _, rfl, _⟩ := h; rfl; done) | (obtain ⟨_, _, _, _, rfl, _⟩ := h; rfl; done) | (obtain ⟨_, _, _, _, _, rfl, _⟩ := h; rfl; done) | (obtain ⟨_, _, _, _, _, _, rfl, _⟩ := h; rfl; done) | (obtain ⟨_, _, _, _, _, _, _, rfl, _⟩ := h; rfl; done) | (obtain ⟨_, _, _, _, _, _, _, _, rfl, _⟩ := h; rfl; done) | (obtain ⟨_, _, _, _, _, _, _, _, _, rfl, _⟩ := h; rfl; done) | (obtain ⟨_, _, _, _, _, _, _, _, _, _, rfl, _⟩ := h; rfl; done) | (obtain ⟨_, _, _, _, _, _, _, _, _, _, _, rfl, _⟩ := h; rfl; done) | (obtain ⟨_, _, _, _, _, _, _, _, _, _, _, _, rfl, _⟩ := h; rfl; done) | (obtain ⟨_, _, _, _, _, _, _, _, _, _, _, _, _, rfl, _⟩ := h; rfl; done) | (obtain ⟨_, _, _, _, _, _, _, _, _, _, _, _, _, _, rfl, _⟩ := h; rfl; done) | (rcases h with h | h <;> first | (obtain ⟨_, rfl, _⟩ := h; rfl; done) | (obtain ⟨_, _, rfl, _⟩ := h; rfl; done) | (obtain ⟨_, _, _, rfl, _⟩ := h; rfl; done) | (obtain ⟨_, _, _, _, rfl, _⟩ := h; rfl; done) | (obtain ⟨_, _, _, _, _, rfl, _⟩ := h; rfl; done) | (obtain ⟨_, _, _, _, _, _, rfl, _⟩ := h; rfl; done) | (obtain ⟨_, _, _, _, _, _, _, rfl, _⟩ := h; rfl; done) | (obtain ⟨_, _, _, _, _, _, _, _, rfl, _⟩ := h; rfl; done) | (obtain ⟨_, _, _, _, _, _, _, _, _, rfl, _⟩ := h; rfl; done) | (obtain ⟨_, _, _, _, _, _, _, _, _, _, rfl, _⟩ := h; rfl; done) | (obtain ⟨_, _, _, _, _, _, _, _, _, _, _, rfl, _⟩ := h; rfl; done) | (obtain ⟨_, _, _, _, _, _, _, _, _, _, _, _, rfl, _⟩ := h; rfl; done) | (obtain ⟨_, _, _, _, _, _, _, _, _, _, _, _, _, rfl, _⟩ := h; rfl; done) | (obtain ⟨_, _, _, _, _, _, _, _, _, _, _, _, _, _, rfl, _⟩ := h; rfl; done))) (rd_twin K)
  have k__law_first := dv__law_first (P := P) (w := w) (b := b) (mg := mg) (sp := spLFirst) F__law_first (PySem.W.mg_none_of X G no_reversed) F__law_steps k__law_steps (by intro vs H Q E h; first | (obtain ⟨_, rfl, _⟩ := h; rfl; done) | (obtain ⟨_, _, rfl, _⟩ := h; rfl; done) | (obtain ⟨_, _, _, rfl, _⟩ := h; rfl; done) | (obtain ⟨_, _, _, _, rfl, _⟩ := h; rfl; done) | (obtain ⟨_, _, _, _, _, rfl, _⟩ := h; rfl; done) | (obtain ⟨_, _, _, _, _, _, rfl, _⟩ := h; rfl; done) | (obtain ⟨_, _, _, _, _, _, _, rfl, _⟩ := h; rfl; done) | (obtain ⟨_, _, _, _, _, _, _, _, rfl, _⟩ := h; rfl; done) | (obtain ⟨_, _, _, _, _, _, _, _, _, rfl, _⟩ := h; rfl; done) | (obtain ⟨_, _, _, _, _, _, _, _, _, _, rfl, _⟩ := h; rfl; done) | (obtain ⟨_, _, _, _, _, _, _, _, _, _, _, rfl, _⟩ := h; rfl; done) | (obtain ⟨_, _, _, _, _, _, _, _, _, _, _, _, rfl, _⟩ := h; rfl; done) | (obtain ⟨_, _, _, _, _, _, _, _, _, _, _, _, _, rfl, _⟩ := h; rfl; done) | (obtain ⟨_, _, _, _, _, _, _, _, _, _, _, _, _, _, rfl, _⟩ := h; rfl; done) | (rcases h with h | h <;> first | (obtain ⟨_, rfl, _⟩ := h; rfl; done) | (obtain ⟨_, _, rfl, _⟩ := h; rfl; done) | (obtain ⟨_, _, _, rfl, _⟩ := h; rfl; done) | (obtain ⟨_, _, _, _, rfl, _⟩ := h; rfl; done) | (obtain ⟨_, _, _, _, _, rfl, _⟩ := h; rfl; done) | (obtain ⟨_, _, _, _, _, _, rfl, _⟩ := h; rfl; done) | (obtain ⟨_, _, _, _, _, _, _, rfl, _⟩ := h; rfl; done) | (obtain ⟨_, _, _, _, _, _, _, _, rfl, _⟩ := h; rfl; done) | (obtain ⟨_, _, _, _, _, _, _, _, _, rfl, _⟩ := h; rfl; done) | (obtain ⟨_, _, _, _, _, _, _, _, _, _, rfl, _⟩ := h; rfl; done) | (obtain ⟨_, _, _, _, _, _, _, _, _, _, _, rfl, _⟩ := h; rfl; done) | (obtain ⟨_, _, _, _, _, _, _, _, _, _, _, _, rfl, _⟩ := h; rfl; done) | (obtain ⟨_, _, _, _, _, _, _, _, _, _, _, _, _, rfl, _⟩ := h; rfl; done) | (obtain ⟨_, _, _, _, _, _, _, _, _, _, _, _, _, _, rfl, _⟩ := h; rfl; done))) (rd_lfirst K)
  have k__law_way := dv__law_way (P := P) (w := w) (b := b) (mg := mg) (sp := spLWay) F__law_way F__law_first k__law_first F__law_steps k__law_steps (PySem.W.mg_none_of X G no_tuple) (by intro vs H Q E h; first | (obtain ⟨_, rfl, _⟩ := h; rfl; done) | (obtain ⟨_, _, rfl, _⟩ := h; rfl; done) | (obtain ⟨_, _, _, rfl, _⟩ := h; rfl; done) | (obtain ⟨_, _, _, _, rfl, _⟩ := h; rfl; done) | (obtain ⟨_, _, _, _, _, rfl, _⟩ := h; rfl; done) | (obtain ⟨_, _, _, _, _, _, rfl, _⟩ := h; rfl; done) | (obtain ⟨_, _, _, _, _, _, _, rfl, _⟩ := h; rfl; done) | (obtain ⟨_, _, _, _, _, _, _, _, rfl, _⟩ := h; rfl; done) | (obtain ⟨_, _, _, _, _, _, _, _, _, rfl, _⟩ := h; rfl; done) | (obtain ⟨_, _, _, _, _, _, _, _, _, _, rfl, _⟩ := h; rfl; done) | (obtain ⟨_, _, _, _, _, _, _, _, _, _, _, rfl, _⟩ := h; rfl; done) | (obtain ⟨_, _, _, _, _, _, _, _, _, _, _, _, rfl, _⟩ := h; rfl; done) | (obtain ⟨_, _, _, _, _, _, _, _, _, _, _, _, _, rfl, _⟩ := h; rfl; done) | (obtain ⟨_, _, _, _, _, _, _, _, _, _, _, _, _, _, rfl, _⟩ := h; rfl; done) | (rcases h with h | h <;> first | (obtain ⟨_, rfl, _⟩ := h; rfl; done) | (obtain ⟨_, _, rfl, _⟩ := h; rfl; done) | (obtain ⟨_, _, _, rfl, _⟩ := h; rfl; done) | (obtain ⟨_, _, _, _, rfl, _⟩ := h; rfl; done) | (obtain ⟨_, _, _, _, _, rfl, _⟩ := h; rfl; done) | (obtain ⟨_, _, _, _, _, _, rfl, _⟩ := h; rfl; done) | (obtain ⟨_, _, _, _, _, _, _, rfl, _⟩ := h; rfl; done) | (obtain ⟨_, _, _, _, _, _, _, _, rfl, _⟩ := h; rfl; done) | (obtain ⟨_, _, _, _, _, _, _, _, _, rfl, _⟩ := h; rfl; done) | (obtain ⟨_, _, _, _, _, _, _, _, _, _, rfl, _⟩ := h; rfl; done) | (obtain ⟨_, _, _, _, _, _, _, _, _, _, _, rfl, _⟩ := h; rfl; done) | (obtain ⟨_, _, _, _, _, _, _, _, _, _, _, _, rfl, _⟩ := h; rfl; done) | (obtain ⟨_, _, _, _, _, _, _, _, _, _, _, _, _, rfl, _⟩ := h; rfl; done) | (obtain ⟨_, _, _, _, _, _, _, _, _, _, _, _, _, _, rfl, _⟩ := h; rfl; done))) (rd_lway K)
  have k__law_leads := dv__law_leads (P := P) (w := w) (b := b) (mg := mg) (sp := spLLeads) F__law_leads F__law_steps k__law_steps (by intro vs H Q E h; first | (obtain ⟨_, rfl, _⟩ := h; rfl; done) | (obtain ⟨_, _, rfl, _⟩ := h; rfl; done) | (obtain ⟨_, _, _, rfl, _⟩ := h; rfl; done) | (obtain ⟨_, _, _, _, rfl, _⟩ := h; rfl; done) | (obtain ⟨_, _, _, _, _, rfl, _⟩ := h; rfl; done) | (obtain ⟨_, _, _, _, _, _, rfl, _⟩ := h; rfl; done) | (obtain ⟨_, _, _, _, _, _, _, rfl, _⟩ := h; rfl; done) | (obtain ⟨_, _, _, _, _, _, _, _, rfl, _⟩ := h; rfl; done) | (obtain ⟨_, _, _, _, _, _, _, _, _, rfl, _⟩ := h; rfl; done) | (obtain ⟨_, _, _, _, _, _, _, _, _, _, rfl, _⟩ := h; rfl; done) | (obtain ⟨_, _, _, _, _, _, _, _, _, _, _, rfl, _⟩ := h; rfl; done) | (obtain ⟨_, _, _, _, _, _, _, _, _, _, _, _, rfl, _⟩ := h; rfl; done) | (obtain ⟨_, _, _, _, _, _, _, _, _, _, _, _, _, rfl, _⟩ := h; rfl; done) | (obtain ⟨_, _, _, _, _, _, _, _, _, _, _, _, _, _, rfl, _⟩ := h; rfl; done) | (rcases h with h | h <;> first | (obtain ⟨_, rfl, _⟩ := h; rfl; done) | (obtain ⟨_, _, rfl, _⟩ := h; rfl; done) | (obtain ⟨_, _, _, rfl, _⟩ := h; rfl; done) | (obtain ⟨_, _, _, _, rfl, _⟩ := h; rfl; done) | (obtain ⟨_, _, _, _, _, rfl, _⟩ := h; rfl; done) | (obtain ⟨_, _, _, _, _, _, rfl, _⟩ := h; rfl; done) | (obtain ⟨_, _, _, _, _, _, _, rfl, _⟩ := h; rfl; done) | (obtain ⟨_, _, _, _, _, _, _, _, rfl, _⟩ := h; rfl; done) | (obtain ⟨_, _, _, _, _, _, _, _, _, rfl, _⟩ := h; rfl; done) | (obtain ⟨_, _, _, _, _, _, _, _, _, _, rfl, _⟩ := h; rfl; done) | (obtain ⟨_, _, _, _, _, _, _, _, _, _, _, rfl, _⟩ := h; rfl; done) | (obtain ⟨_, _, _, _, _, _, _, _, _, _, _, _, rfl, _⟩ := h; rfl; done) | (obtain ⟨_, _, _, _, _, _, _, _, _, _, _, _, _, rfl, _⟩ := h; rfl; done) | (obtain ⟨_, _, _, _, _, _, _, _, _, _, _, _, _, _, rfl, _⟩ := h; rfl; done))) (rd_lleads K)
  have k__law_pair := dv__law_pair (P := P) (w := w) (b := b) (mg := mg) (sp := spPair K [P__is_row, P__has_shape, P__leads_on, P_lets_chart]) F__law_pair F__law_chart k__law_chart F_chart_of k_chart_of F__law_first k__law_first F_first_road k_first_road F__law_way k__law_way F_way k_way F__law_leads k__law_leads F_is_way k_is_way (PySem.W.mg_none_of X G no_int) F_minutes_of k_minutes_of F__law_verdict k__law_verdict F__law_told k__law_told (by intro vs H Q E h; first | (obtain ⟨_, rfl, _⟩ := h; rfl; done) | (obtain ⟨_, _, rfl, _⟩ := h; rfl; done) | (obtain ⟨_, _, _, rfl, _⟩ := h; rfl; done) | (obtain ⟨_, _, _, _, rfl, _⟩ := h; rfl; done) | (obtain ⟨_, _, _, _, _, rfl, _⟩ := h; rfl; done) | (obtain ⟨_, _, _, _, _, _, rfl, _⟩ := h; rfl; done) | (obtain ⟨_, _, _, _, _, _, _, rfl, _⟩ := h; rfl; done) | (obtain ⟨_, _, _, _, _, _, _, _, rfl, _⟩ := h; rfl; done) | (obtain ⟨_, _, _, _, _, _, _, _, _, rfl, _⟩ := h; rfl; done) | (obtain ⟨_, _, _, _, _, _, _, _, _, _, rfl, _⟩ := h; rfl; done) | (obtain ⟨_, _, _, _, _, _, _, _, _, _, _, rfl, _⟩ := h; rfl; done) | (obtain ⟨_, _, _, _, _, _, _, _, _, _, _, _, rfl, _⟩ := h; rfl; done) | (obtain ⟨_, _, _, _, _, _, _, _, _, _, _, _, _, rfl, _⟩ := h; rfl; done) | (obtain ⟨_, _, _, _, _, _, _, _, _, _, _, _, _, _, rfl, _⟩ := h; rfl; done) | (rcases h with h | h <;> first | (obtain ⟨_, rfl, _⟩ := h; rfl; done) | (obtain ⟨_, _, rfl, _⟩ := h; rfl; done) | (obtain ⟨_, _, _, rfl, _⟩ := h; rfl; done) | (obtain ⟨_, _, _, _, rfl, _⟩ := h; rfl; done) | (obtain ⟨_, _, _, _, _, rfl, _⟩ := h; rfl; done) | (obtain ⟨_, _, _, _, _, _, rfl, _⟩ := h; rfl; done) | (obtain ⟨_, _, _, _, _, _, _, rfl, _⟩ := h; rfl; done) | (obtain ⟨_, _, _, _, _, _, _, _, rfl, _⟩ := h; rfl; done) | (obtain ⟨_, _, _, _, _, _, _, _, _, rfl, _⟩ := h; rfl; done) | (obtain ⟨_, _, _, _, _, _, _, _, _, _, rfl, _⟩ := h; rfl; done) | (obtain ⟨_, _, _, _, _, _, _, _, _, _, _, rfl, _⟩ := h; rfl; done) | (obtain ⟨_, _, _, _, _, _, _, _, _, _, _, _, rfl, _⟩ := h; rfl; done) | (obtain ⟨_, _, _, _, _, _, _, _, _, _, _, _, _, rfl, _⟩ := h; rfl; done) | (obtain ⟨_, _, _, _, _, _, _, _, _, _, _, _, _, _, rfl, _⟩ := h; rfl; done))) (rd_pair K (L := [P__is_row, P__has_shape, P__leads_on, P_lets_chart]))
  have k__law_lined := dv__law_lined (P := P) (w := w) (b := b) (mg := mg) (sp := spLined K) F__law_lined F__law_town k__law_town F__law_row k__law_row F__law_cell_at k__law_cell_at F__law_names k__law_names (PySem.W.mg_none_of X G no_range) (PySem.W.mg_none_of X G no_int) (PySem.W.mg_none_of X G no_tuple) (by intro vs H Q E h; first | (obtain ⟨_, rfl, _⟩ := h; rfl; done) | (obtain ⟨_, _, rfl, _⟩ := h; rfl; done) | (obtain ⟨_, _, _, rfl, _⟩ := h; rfl; done) | (obtain ⟨_, _, _, _, rfl, _⟩ := h; rfl; done) | (obtain ⟨_, _, _, _, _, rfl, _⟩ := h; rfl; done) | (obtain ⟨_, _, _, _, _, _, rfl, _⟩ := h; rfl; done) | (obtain ⟨_, _, _, _, _, _, _, rfl, _⟩ := h; rfl; done) | (obtain ⟨_, _, _, _, _, _, _, _, rfl, _⟩ := h; rfl; done) | (obtain ⟨_, _, _, _, _, _, _, _, _, rfl, _⟩ := h; rfl; done) | (obtain ⟨_, _, _, _, _, _, _, _, _, _, rfl, _⟩ := h; rfl; done) | (obtain ⟨_, _, _, _, _, _, _, _, _, _, _, rfl, _⟩ := h; rfl; done) | (obtain ⟨_, _, _, _, _, _, _, _, _, _, _, _, rfl, _⟩ := h; rfl; done) | (obtain ⟨_, _, _, _, _, _, _, _, _, _, _, _, _, rfl, _⟩ := h; rfl; done) | (obtain ⟨_, _, _, _, _, _, _, _, _, _, _, _, _, _, rfl, _⟩ := h; rfl; done) | (rcases h with h | h <;> first | (obtain ⟨_, rfl, _⟩ := h; rfl; done) | (obtain ⟨_, _, rfl, _⟩ := h; rfl; done) | (obtain ⟨_, _, _, rfl, _⟩ := h; rfl; done) | (obtain ⟨_, _, _, _, rfl, _⟩ := h; rfl; done) | (obtain ⟨_, _, _, _, _, rfl, _⟩ := h; rfl; done) | (obtain ⟨_, _, _, _, _, _, rfl, _⟩ := h; rfl; done) | (obtain ⟨_, _, _, _, _, _, _, rfl, _⟩ := h; rfl; done) | (obtain ⟨_, _, _, _, _, _, _, _, rfl, _⟩ := h; rfl; done) | (obtain ⟨_, _, _, _, _, _, _, _, _, rfl, _⟩ := h; rfl; done) | (obtain ⟨_, _, _, _, _, _, _, _, _, _, rfl, _⟩ := h; rfl; done) | (obtain ⟨_, _, _, _, _, _, _, _, _, _, _, rfl, _⟩ := h; rfl; done) | (obtain ⟨_, _, _, _, _, _, _, _, _, _, _, _, rfl, _⟩ := h; rfl; done) | (obtain ⟨_, _, _, _, _, _, _, _, _, _, _, _, _, rfl, _⟩ := h; rfl; done) | (obtain ⟨_, _, _, _, _, _, _, _, _, _, _, _, _, _, rfl, _⟩ := h; rfl; done))) (rd_lined K)
  have k_law := dv_law (P := P) (w := w) (b := b) (mg := mg) (sp := spLaw K [P__is_row, P__has_shape, P__leads_on, P_lets_chart]) F_law F__law_lined k__law_lined F__law_row k__law_row F__law_cell_at k__law_cell_at F__law_twin k__law_twin (PySem.W.mg_none_of X G no_range) F__law_shut k__law_shut (PySem.W.mg_none_of X G no_len) F__law_chart k__law_chart F__law_way k__law_way F__law_pair k__law_pair (PySem.W.mg_none_of X G no_isinstance) (PySem.W.mg_none_of X G no_bool) (PySem.W.mg_none_of X G no_all) (by intro vs H Q E h; first | (obtain ⟨_, rfl, _⟩ := h; rfl; done) | (obtain ⟨_, _, rfl, _⟩ := h; rfl; done) | (obtain ⟨_, _, _, rfl, _⟩ := h; rfl; done) | (obtain ⟨_, _, _, _, rfl, _⟩ := h; rfl; done) | (obtain ⟨_, _, _, _, _, rfl, _⟩ := h; rfl; done) | (obtain ⟨_, _, _, _, _, _, rfl, _⟩ := h; rfl; done) | (obtain ⟨_, _, _, _, _, _, _, rfl, _⟩ := h; rfl; done) | (obtain ⟨_, _, _, _, _, _, _, _, rfl, _⟩ := h; rfl; done) | (obtain ⟨_, _, _, _, _, _, _, _, _, rfl, _⟩ := h; rfl; done) | (obtain ⟨_, _, _, _, _, _, _, _, _, _, rfl, _⟩ := h; rfl; done) | (obtain ⟨_, _, _, _, _, _, _, _, _, _, _, rfl, _⟩ := h; rfl; done) | (obtain ⟨_, _, _, _, _, _, _, _, _, _, _, _, rfl, _⟩ := h; rfl; done) | (obtain ⟨_, _, _, _, _, _, _, _, _, _, _, _, _, rfl, _⟩ := h; rfl; done) | (obtain ⟨_, _, _, _, _, _, _, _, _, _, _, _, _, _, rfl, _⟩ := h; rfl; done) | (rcases h with h | h <;> first | (obtain ⟨_, rfl, _⟩ := h; rfl; done) | (obtain ⟨_, _, rfl, _⟩ := h; rfl; done) | (obtain ⟨_, _, _, rfl, _⟩ := h; rfl; done) | (obtain ⟨_, _, _, _, rfl, _⟩ := h; rfl; done) | (obtain ⟨_, _, _, _, _, rfl, _⟩ := h; rfl; done) | (obtain ⟨_, _, _, _, _, _, rfl, _⟩ := h; rfl; done) | (obtain ⟨_, _, _, _, _, _, _, rfl, _⟩ := h; rfl; done) | (obtain ⟨_, _, _, _, _, _, _, _, rfl, _⟩ := h; rfl; done) | (obtain ⟨_, _, _, _, _, _, _, _, _, rfl, _⟩ := h; rfl; done) | (obtain ⟨_, _, _, _, _, _, _, _, _, _, rfl, _⟩ := h; rfl; done) | (obtain ⟨_, _, _, _, _, _, _, _, _, _, _, rfl, _⟩ := h; rfl; done) | (obtain ⟨_, _, _, _, _, _, _, _, _, _, _, _, rfl, _⟩ := h; rfl; done) | (obtain ⟨_, _, _, _, _, _, _, _, _, _, _, _, _, rfl, _⟩ := h; rfl; done) | (obtain ⟨_, _, _, _, _, _, _, _, _, _, _, _, _, _, rfl, _⟩ := h; rfl; done))) (rd_law K (L := [P__is_row, P__has_shape, P__leads_on, P_lets_chart]))
  exact k_law
end Wg
open PySem PySem.W PyProof.Rows
set_option maxHeartbeats 0 in
theorem PySem.Challenge.cw_wagoncalls_k23_charts_and_ways_asked_bet_holds : PySem.Challenge.rw_wagoncalls_k23_charts_and_ways_asked_bet.Holds := by
  w_on; o_law; k_head; (case hw => w_witness2)
  k_fill
  refine Wg.walk_endT (l := PySem.Challenge.rw_wagoncalls_k23_charts_and_ways_asked_bet) (n := 63) (k := 11) (x := "script") (sp := fun K L => Wg.spLaw K L) rfl (by decide) rfl ⟨⟨rfl, by decide, by decide⟩, rfl⟩ (fun w h Y => PySem.W.kIn_of Y) ?F ?S
  case S =>
    intro K L H a ns hl ho ht hs
    exact ⟨a, ns, rfl, Wg.Scr.ofT ho hs, hl, ht, fun _ => rfl⟩
  case F =>
    intro w mg fa h KX G hmg
    refine' Wg.all_mk KX G hmg ?ad_NoPaper ?ad_WagonError ?ad_NoDeed ?ad_NoRow ?ad_NoLog ?ad_TooMany ?ad_Late ?ad_NoCall ?ad_NoTelling ?ad_NoMoment ?ad_NoTown ?ad_NoText ?wga ?wrd ?wfi ?oc_NoPaper ?sa_NoPaper ?ex_NoPaper ?ty_NoPaper ?kc_NoPaper ?na_NoPaper_word ?na_NoPaper_at ?pf ?fi_NoPaper____init__ ?ifn_NoPaper____init__ ?lo_NoPaper____init__ ?co_NoPaper____init__ ?kp_NoPaper____init__ ?ad_is_whole ?lo_is_whole ?co_is_whole ?kp_is_whole ?ad_is_within ?lo_is_within ?co_is_within ?kp_is_within ?ad_drives_of ?lo_drives_of ?co_drives_of ?kp_drives_of ?ad_is_steep ?lo_is_steep ?co_is_steep ?kp_is_steep ?ad__least_minutes ?lo__least_minutes ?co__least_minutes ?kp__least_minutes ?ad_chart_of ?lo_chart_of ?co_chart_of ?kp_chart_of ?ad_is_least ?lo_is_least ?co_is_least ?kp_is_least ?ad_first_road ?lo_first_road ?co_first_road ?kp_first_road ?ad_led_to ?lo_led_to ?co_led_to ?kp_led_to ?ad_way ?lo_way ?co_way ?kp_way ?ad_is_way ?lo_is_way ?co_is_way ?kp_is_way ?ad_minutes_of ?lo_minutes_of ?co_minutes_of ?kp_minutes_of ?ad__is_row ?lo__is_row ?co__is_row ?kp__is_row ?tb__is_row ?re__is_row ?ad__has_shape ?lo__has_shape ?co__has_shape ?kp__has_shape ?tb__has_shape ?re__has_shape ?ad__leads_on ?lo__leads_on ?co__leads_on ?kp__leads_on ?tb__leads_on ?re__leads_on ?ad__is_slack ?lo__is_slack ?co__is_slack ?kp__is_slack ?ad_lets_chart ?lo_lets_chart ?co_lets_chart ?kp_lets_chart ?tb_lets_chart ?re_lets_chart ?ad__law_cell_at ?lo__law_cell_at ?co__law_cell_at ?kp__law_cell_at ?ad__law_row ?lo__law_row ?co__law_row ?kp__law_row ?ad__law_names ?lo__law_names ?co__law_names ?kp__law_names ?ad__law_road ?lo__law_road ?co__law_road ?kp__law_road ?ad__law_town ?lo__law_town ?co__law_town ?kp__law_town ?ad__law_shut ?lo__law_shut ?co__law_shut ?kp__law_shut ?ad__law_steps ?lo__law_steps ?co__law_steps ?kp__law_steps ?ad__law_chart ?lo__law_chart ?co__law_chart ?kp__law_chart ?ad__law_verdict ?lo__law_verdict ?co__law_verdict ?kp__law_verdict ?ad__law_told ?lo__law_told ?co__law_told ?kp__law_told ?ad__law_twin ?lo__law_twin ?co__law_twin ?kp__law_twin ?ad__law_first ?lo__law_first ?co__law_first ?kp__law_first ?ad__law_way ?lo__law_way ?co__law_way ?kp__law_way ?ad__law_leads ?lo__law_leads ?co__law_leads ?kp__law_leads ?ad__law_pair ?lo__law_pair ?co__law_pair ?kp__law_pair ?ad__law_lined ?lo__law_lined ?co__law_lined ?kp__law_lined ?ad_law ?lo_law ?co_law ?kp_law ?no_isinstance ?no_int ?no_bool ?no_enumerate ?no_range ?no_tuple ?no_len ?no_all ?no_any ?no_abs ?no_min ?no_ValueError ?no_list ?no_reversed
    (case ad_NoPaper => k_is)
    (case ad_WagonError => k_is)
    (case ad_NoDeed => k_is)
    (case ad_NoRow => k_is)
    (case ad_NoLog => k_is)
    (case ad_TooMany => k_is)
    (case ad_Late => k_is)
    (case ad_NoCall => k_is)
    (case ad_NoTelling => k_is)
    (case ad_NoMoment => k_is)
    (case ad_NoTown => k_is)
    (case ad_NoText => k_is)
    (case wga => k_is)
    (case wrd => k_is)
    (case wfi => k_is)
    (case oc_NoPaper => k_is)
    (case sa_NoPaper => k_is)
    (case ex_NoPaper => k_is)
    (case ty_NoPaper => k_is)
    (case kc_NoPaper => k_is)
    (case na_NoPaper_word => k_is)
    (case na_NoPaper_at => k_is)
    (case pf => refine ⟨?_, ⟨?_, ?_, ?_, ?_, ?_, ?_, ?_, ?_, ?_⟩, ?_, ?_, ?_, ?_, ?_⟩ <;> first | k_is | rfl | decide +kernel)
    (case fi_NoPaper____init__ => k_is)
    (case ifn_NoPaper____init__ => k_is)
    (case lo_NoPaper____init__ => k_is)
    (case co_NoPaper____init__ => k_is)
    (case kp_NoPaper____init__ => k_is)
    (case ad_is_whole => k_is)
    (case lo_is_whole => k_is)
    (case co_is_whole => k_is)
    (case kp_is_whole => k_is)
    (case ad_is_within => k_is)
    (case lo_is_within => k_is)
    (case co_is_within => k_is)
    (case kp_is_within => k_is)
    (case ad_drives_of => k_is)
    (case lo_drives_of => k_is)
    (case co_drives_of => k_is)
    (case kp_drives_of => k_is)
    (case ad_is_steep => k_is)
    (case lo_is_steep => k_is)
    (case co_is_steep => k_is)
    (case kp_is_steep => k_is)
    (case ad__least_minutes => k_is)
    (case lo__least_minutes => k_is)
    (case co__least_minutes => k_is)
    (case kp__least_minutes => k_is)
    (case ad_chart_of => k_is)
    (case lo_chart_of => k_is)
    (case co_chart_of => k_is)
    (case kp_chart_of => k_is)
    (case ad_is_least => k_is)
    (case lo_is_least => k_is)
    (case co_is_least => k_is)
    (case kp_is_least => k_is)
    (case ad_first_road => k_is)
    (case lo_first_road => k_is)
    (case co_first_road => k_is)
    (case kp_first_road => k_is)
    (case ad_led_to => k_is)
    (case lo_led_to => k_is)
    (case co_led_to => k_is)
    (case kp_led_to => k_is)
    (case ad_way => k_is)
    (case lo_way => k_is)
    (case co_way => k_is)
    (case kp_way => k_is)
    (case ad_is_way => k_is)
    (case lo_is_way => k_is)
    (case co_is_way => k_is)
    (case kp_is_way => k_is)
    (case ad_minutes_of => k_is)
    (case lo_minutes_of => k_is)
    (case co_minutes_of => k_is)
    (case kp_minutes_of => k_is)
    (case ad__is_row => k_is)
    (case lo__is_row => k_is)
    (case co__is_row => k_is)
    (case kp__is_row => k_is)
    (case tb__is_row => first | k_is | rfl | decide +kernel)
    (case re__is_row => first | k_is | rfl | decide +kernel)
    (case ad__has_shape => k_is)
    (case lo__has_shape => k_is)
    (case co__has_shape => k_is)
    (case kp__has_shape => k_is)
    (case tb__has_shape => first | k_is | rfl | decide +kernel)
    (case re__has_shape => first | k_is | rfl | decide +kernel)
    (case ad__leads_on => k_is)
    (case lo__leads_on => k_is)
    (case co__leads_on => k_is)
    (case kp__leads_on => k_is)
    (case tb__leads_on => first | k_is | rfl | decide +kernel)
    (case re__leads_on => first | k_is | rfl | decide +kernel)
    (case ad__is_slack => k_is)
    (case lo__is_slack => k_is)
    (case co__is_slack => k_is)
    (case kp__is_slack => k_is)
    (case ad_lets_chart => k_is)
    (case lo_lets_chart => k_is)
    (case co_lets_chart => k_is)
    (case kp_lets_chart => k_is)
    (case tb_lets_chart => first | k_is | rfl | decide +kernel)
    (case re_lets_chart => first | k_is | rfl | decide +kernel)
    (case ad__law_cell_at => k_is)
    (case lo__law_cell_at => k_is)
    (case co__law_cell_at => k_is)
    (case kp__law_cell_at => k_is)
    (case ad__law_row => k_is)
    (case lo__law_row => k_is)
    (case co__law_row => k_is)
    (case kp__law_row => k_is)
    (case ad__law_names => k_is)
    (case lo__law_names => k_is)
    (case co__law_names => k_is)
    (case kp__law_names => k_is)
    (case ad__law_road => k_is)
    (case lo__law_road => k_is)
    (case co__law_road => k_is)
    (case kp__law_road => k_is)
    (case ad__law_town => k_is)
    (case lo__law_town => k_is)
    (case co__law_town => k_is)
    (case kp__law_town => k_is)
    (case ad__law_shut => k_is)
    (case lo__law_shut => k_is)
    (case co__law_shut => k_is)
    (case kp__law_shut => k_is)
    (case ad__law_steps => k_is)
    (case lo__law_steps => k_is)
    (case co__law_steps => k_is)
    (case kp__law_steps => k_is)
    (case ad__law_chart => k_is)
    (case lo__law_chart => k_is)
    (case co__law_chart => k_is)
    (case kp__law_chart => k_is)
    (case ad__law_verdict => k_is)
    (case lo__law_verdict => k_is)
    (case co__law_verdict => k_is)
    (case kp__law_verdict => k_is)
    (case ad__law_told => k_is)
    (case lo__law_told => k_is)
    (case co__law_told => k_is)
    (case kp__law_told => k_is)
    (case ad__law_twin => k_is)
    (case lo__law_twin => k_is)
    (case co__law_twin => k_is)
    (case kp__law_twin => k_is)
    (case ad__law_first => k_is)
    (case lo__law_first => k_is)
    (case co__law_first => k_is)
    (case kp__law_first => k_is)
    (case ad__law_way => k_is)
    (case lo__law_way => k_is)
    (case co__law_way => k_is)
    (case kp__law_way => k_is)
    (case ad__law_leads => k_is)
    (case lo__law_leads => k_is)
    (case co__law_leads => k_is)
    (case kp__law_leads => k_is)
    (case ad__law_pair => k_is)
    (case lo__law_pair => k_is)
    (case co__law_pair => k_is)
    (case kp__law_pair => k_is)
    (case ad__law_lined => k_is)
    (case lo__law_lined => k_is)
    (case co__law_lined => k_is)
    (case kp__law_lined => k_is)
    (case ad_law => k_is)
    (case lo_law => k_is)
    (case co_law => k_is)
    (case kp_law => k_is)
    (case no_isinstance => k_is)
    (case no_int => k_is)
    (case no_bool => k_is)
    (case no_enumerate => k_is)
    (case no_range => k_is)
    (case no_tuple => k_is)
    (case no_len => k_is)
    (case no_all => k_is)
    (case no_any => k_is)
    (case no_abs => k_is)
    (case no_min => k_is)
    (case no_ValueError => k_is)
    (case no_list => k_is)
    (case no_reversed => k_is)
