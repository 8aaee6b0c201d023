import PyProof.Rows.All
import Wide.All
import OpenK.AllK
import Wide.FinOn
import HandS.Base
import HandS.Call
import HandS.List
import HandS.Comp
import HandS.Ends
import HandS.Dict
import HandS.Iter
import HandS.Text
import HandS.Words
import PyProof.AutoSeq1
import PyProof.ReprRoads
import PyProof.CallFns
import HandS.IsInst
import HandS.Flow
import HandS.Style
import PyProof.FitsInt
import PyProof.StrLawsRepr
import HandS.Strs
import HandS.Zip
import HandS.Rev
import KE.GoesMore
import PyProof.EnumMake
import PyProof.Draws
import HandS.NoneIn
import KE.SortData
import HandS.Conv
import KE.DataCmp
import KE.DataMinMax
import PyProof.Rows.RowBridgeK
import KE.DataFind
import HandS.SetFor
import PyProof.Rows.CallKwBuiltin
import PySem.Challenge.RW_wagoncalls_k47_whole_sent_as_promised
set_option Elab.async false
set_option linter.all false
set_option maxRecDepth 100000
set_option maxHeartbeats 4000000
/-! Wagon, part 1: promises of defs that are called where no repr runs (so that what repr tells is known). -/
namespace Wg
open PySem PySem.Spec PyProof.Rows L2

/-- room for calls, and no repr under way -/
structure Rm (k : Nat) (A : Around) : Prop where
  rm : Room k A
  gd : A.guards = some []
theorem Rm.mono {j k : Nat} {A : Around} (r : Rm k A) (h : j ≤ k) : Rm j A := ⟨r.rm.mono h, r.gd⟩
theorem Rm.deep {k : Nat} {A : Around} (r : Rm (k + 1) A) (v : Env) : Rm k (A.deeper v) := ⟨r.rm.deeper v, r.gd⟩

/-- the def at f keeps the promise sp -/
structure Keeps (P : Program) (w : World) (K : PySem.W.Frag) (mg : Str → Option Value) (b : Heap) (CX : CXT) (k : Nat) (f : Addr) (fd : FuncData) (ps : List Str) (sp : Sp) : Prop where
  len : ∀ vs H Q E, sp vs H Q E → vs.length = ps.length
  run : ∀ (A : Around) (o : List Env) (s : Shared) (H : Hp) (g : Args) (us : List Value) (vs : List V) (Q : VK) (E : XK),
    Rm k A → Env0 P w K mg b A o s H → BindsTo s fd g (ps.zip us) → Vals vs us → sp vs H Q E →
      codeAny (model P w) A (.call (.ref f) g) (CR CX o P w H s Q E) s
theorem Keeps.up {P : Program} {w : World} {K : PySem.W.Frag} {mg : Str → Option Value} {b : Heap} {CX : CXT} {j k : Nat} {f : Addr} {fd : FuncData} {ps : List Str} {sp : Sp}
    (F : Keeps P w K mg b CX j f fd ps sp) (h : j ≤ k) : Keeps P w K mg b CX k f fd ps sp :=
  ⟨F.len, fun A o s H g us vs Q E hr => F.run A o s H g us vs Q E (hr.mono h)⟩
theorem Keeps.weak {P : Program} {w : World} {K : PySem.W.Frag} {mg : Str → Option Value} {b : Heap} {CX : CXT} {k : Nat} {f : Addr} {fd : FuncData} {ps : List Str} {sp sp' : Sp}
    (F : Keeps P w K mg b CX k f fd ps sp) (h : ∀ vs H Q E, sp' vs H Q E → sp vs H Q E) : Keeps P w K mg b CX k f fd ps sp' :=
  ⟨fun vs H Q E q => F.len vs H Q E (h _ _ _ _ q), fun A o s H g us vs Q E h1 h2 h3 h4 h5 => F.run A o s H g us vs Q E h1 h2 h3 h4 (h _ _ _ _ h5)⟩

section
variable {X : Cx} {CX : CXT} {k : Nat} {f : Addr} {fd : FuncData} {ps : List Str} {sp : Sp} {E : XK} {x : Str} {p pos : Pos} {e : Expr} {es : List Expr} {t : TA}
theorem go_fn {pins : List (Addr × Obj)} {σ : L2.St} {H : Hp} {s : Shared} {Q : VK} {us : List Value} {vs : List V}
    (F : Keeps X.prog X.w X.K X.mg X.base CX k f fd ps sp) (hr : Rm k X.A) (hb : Binds X.K fd ps []) (hx : Passes CX X E)
    (I : Inv X pins σ H s) (r : Vals vs us) (h : sp vs H Q E) : wpAny (model X.prog X.w) X.A (call (.ref f) us) (EP X pins σ Q) X.xe s := by
  have hl : (us ++ []).length = ps.length := by
    rw [List.append_nil, ← r.length]
    exact F.len _ _ _ _ h
  have hbs := hb s us I.kIn hl
  rw [List.append_nil] at hbs
  have run := F.run X.A X.stack s H ⟨us, []⟩ us vs Q E hr I.env0 hbs r h
  refine wpAny_call (codeAny_mono run fun res s' hq => ?_)
  match res, hq with
  | .error e, hq => exact hx pins σ H s e s' I hq
  | .ok (.ret u), hq => exact I.after hq
  | .ok .next, hq => exact hq.elim
  | .ok .brk, hq => exact hq.elim
  | .ok .cont, hq => exact hq.elim
/-- f(e, ..), f a def of the text -/
def tGo (sp : Sp) (E : XK) (t : TA) : TE := fun σ H Q => t σ H fun vs H1 => sp vs H1 Q E
theorem pe_go (F : Keeps X.prog X.w X.K X.mg X.base CX k f fd ps sp) (hr : Rm k X.A) (hg : Gl X x) (hm : X.mg x = some (.ref f)) (hk : PySem.W.keepIn X.K (.ref f) = true)
    (hb : Binds X.K fd ps []) (hx : Passes CX X E) (ha : PA X (e :: es) t) (hdb : (x == ("__debug__" : Str)) = false := by decide)
    (he : starEach (e :: es) X.env = (false, eval e X.env) :: starEach es X.env := by rfl) (hpl : (backTo pos (starEach es X.env)).any (·.1) = false := by rfl) :
    PE X (.Call (.Name x p) (e :: es) [] pos) (tGo sp E t) := by
  constructor
  intro pins s σ H Q I h
  refine wpAny_Call_Name_kw (ld_glob I hg hm ?_ hdb)
  have args := ha.run pos pins s σ H _ I h
  refine PySem.W.callWith_K (h₀ := X.base) I.ok.mod.kin hk (thn args fun us s1 hh => ?_) he hpl
  obtain ⟨vs, H1, I1, r, q⟩ := hh
  exact ⟨I1.kIn, go_fn F hr hb hx I1 r q⟩
theorem pe_go0 (F : Keeps X.prog X.w X.K X.mg X.base CX k f fd ps sp) (hr : Rm k X.A) (hg : Gl X x) (hm : X.mg x = some (.ref f)) (hk : PySem.W.keepIn X.K (.ref f) = true)
    (hb : Binds X.K fd ps []) (hx : Passes CX X E) (hdb : (x == ("__debug__" : Str)) = false := by decide) : PE X (.Call (.Name x p) [] [] pos) (tGo sp E tNil) := by
  constructor
  intro pins s σ H Q I h
  refine wpAny_Call_Name_kw (ld_glob I hg hm ?_ hdb)
  exact PySem.W.callWith_K0 I.kIn hk (go_fn (us := []) F hr hb hx I .nil h)
end

section
variable {P : Program} {w : World} {K : PySem.W.Frag} {mg : Str → Option Value} {b : Heap}
/-- a def keeps its promise, by its body -/
theorem keeps_of {CX : CXT} {x qual : Str} {st : Stmt} {f : Addr} {fd : FuncData} {N ps : List Str} {k : Nat} {sp : Sp} (F : Fun K x qual st f fd) (S : FnScope N ps (defScope st))
    (len : ∀ vs H Q E, sp vs H Q E → vs.length = ps.length)
    (body : ∀ (cdv : Value) (A : Around) (o : List Env) (s : Shared) (H : Hp) (vs : List V) (Q : VK) (E : XK), Rm k (A.deeper (envOfC qual (defScope st) s.heap.objs.size f cdv)) → sp vs H Q E →
      ∃ t, PSs (cxOf CX P w K mg b N qual (defScope st) f cdv A o s H E) (defBody st) t ∧ t { nx := fun _ H' => Q .non H', rt := Q } (start N vs) H) :
    Keeps P w K mg b CX (k + 1) f fd ps sp := by
  obtain ⟨oc, od, kV, doc, pm, an, cdv, ct, osl, rfl, lk, hcd⟩ := F.ex
  constructor
  · exact len
  intro A o s H g us vs Q E hr e0 hb r hsp
  have hl := len _ _ _ _ hsp
  have up : ∀ {a : Addr} {ob : Obj}, b.get? a = some ob → s.heap.get? a = some ob := fun {a ob} q => (e0.bs a ob q).1
  have inK : K.In s.heap := e0.mod.kin.keeps fun _ _ q => up q
  have nolim : s.heap.NoLimit := e0.mod.nolimit.keeps fun _ _ q => up q
  have kinds : ∀ y ∈ ps.zip us, (defScope st).names.lookup y.1 = some .local ∨ ((defScope st).names.lookup y.1 = some .cell ∧ ((cellsFrom (s.heap.objs.size + 1) (defScope st).names []).lookup y.1).isSome = true) := by
    rintro ⟨n, v⟩ hy
    have hn := S.par n (List.of_mem_zip hy).1
    exact hn.imp id fun q => ⟨q, PySem.W.cellsFrom_some _ _ _ (.inl q)⟩
  have recd := PySem.W.codeRec_of inK hcd
  refine codeAny_call_function hr.rm.depth (inK _ _ lk) rfl S.co S.gen rfl recd (hb _ _ _ _ ?_)
  refine wpAny_newFunctionEnv_cells S.kind kinds ?_
  intro env he s1 y
  subst he
  refine ⟨nolim.keeps y.toInCall.keep, codeAny_func ?_⟩
  obtain ⟨t, ht, hq⟩ := body cdv A o s H vs Q E (hr.deep _) hsp
  have I := inv_start (CX := CX) (E := E) S hr.rm.hd e0 hl r y
  refine wpAny_mono (ht.run [] s1 (start N vs) H _ I hq) ?_ fun _ _ q => q
  intro fl s' hs
  match fl, hs with
  | .ret u, hs =>
    obtain ⟨v, σ', H', J, rv, q⟩ := hs
    exact ⟨v, H', J.os, J.bare, J.base, J.hok, rv, q⟩
  | .next, hs =>
    obtain ⟨σ', H', J, q⟩ := hs
    exact ⟨.non, H', J.os, J.bare, J.base, J.hok, rfl, q⟩
  | .brk, hs => exact hs.elim fun _ z => z.elim fun _ y => y.2.elim
  | .cont, hs => exact hs.elim fun _ z => z.elim fun _ y => y.2.elim
theorem keeps0 {x qual : Str} {st : Stmt} {f : Addr} {fd : FuncData} {N ps : List Str} {k : Nat} {sp : Sp} (F : Fun K x qual st f fd) (S : FnScope N ps (defScope st))
    (len : ∀ vs H Q E, sp vs H Q E → vs.length = ps.length)
    (body : ∀ (cdv : Value) (A : Around) (o : List Env) (s : Shared) (H : Hp) (vs : List V) (Q : VK) (E : XK), Rm k (A.deeper (envOfC qual (defScope st) s.heap.objs.size f cdv)) → sp vs H Q E →
      ∃ t, PSs (cxOf CX0 P w K mg b N qual (defScope st) f cdv A o s H E).nox (defBody st) t ∧ t { nx := fun _ H' => Q .non H', rt := Q } (start N vs) H) :
    Keeps P w K mg b CX0 (k + 1) f fd ps sp :=
  keeps_of F S len fun cdv A o s H vs Q E hr h => (body cdv A o s H vs Q E hr h).elim fun t q => ⟨t, q.1.nox, q.2⟩
end

/-- the law's call, from its promise -/
theorem law_end {P : Program} {w : World} {K : PySem.W.Frag} {mg mb : Str → Option Value} {k : Nat} {fa a : Addr} {fd : FuncData} {x : Str} {sp : Sp} {s : Shared} {vs : List Value} {ns : List Int}
    (KX : K.In s.heap) (hns : s.heap.Ns mainGlobals mg) (hb : s.heap.Ns builtinsNs mb) (hbb : ∀ x : Str, x ≠ "__name__" → mb x = bootBuiltins x) (hlim : s.heap.NoLimit) (hg : s.gens = #[])
    (ha : s.heap.get? a = some { cls := .type "list", data := .seq vs.toArray }) (hi : IntsAre vs ns) (hl : ns.length ≤ sizeLine) (hr : Rm k callerA)
    (F : ∀ b : Heap, K.In b → b.Ns mainGlobals mg → Keeps P w K mg b CX0 k fa fd [x] sp) (hbind : ∀ (s : Shared) (u : Value), BindsTo s fd ⟨[u], []⟩ [(x, u)])
    (hsp : ∀ H : Hp, Only H → SqL K H a (ns.map V.int) → sp [.ref a] H (fun v _ => v = .bl true) fun _ _ _ => False) :
    codeAny (model P w) callerA (.call (.ref fa) ⟨[.ref a], []⟩) (fun r s' => r = .ok (.ret (.bool true)) ∧ OldK s.heap s'.heap ∧ s'.os = s.os ∧ AllBare s'.gens) s := by
  -- a promise at callerA alone, dressed as one of the layer's at that place
  have lenV := hi.length
  have rv := vals_ints hi
  suffices core : ∀ H : Hp, Only H → SqL K H a (ns.map V.int) → HOk P w H s.heap → (∀ c, H c ≠ none → c = a) → (H a ≠ none → K.lookup a = none) →
      codeAny (model P w) callerA (.call (.ref fa) ⟨[.ref a], []⟩) (fun r s' => r = .ok (.ret (.bool true)) ∧ OldK s.heap s'.heap ∧ s'.os = s.os ∧ AllBare s'.gens) s by
    match hk : K.lookup a with
    | some o =>
      have eo := (KX a o hk).symm.trans ha
      obtain rfl := Option.some.inj eo
      refine core (fun _ => none) (fun _ => .inl rfl) (.inr ⟨_, vs.toArray, _, hk, rfl, rfl, rfl, ?_, by simpa using rv⟩) ?_ (fun c z => absurd rfl z) (fun z => absurd rfl z)
      · rw [List.size_toArray, lenV]; exact hl
      · intro c u z; exact nomatch z
    | none =>
      let H0 : Hp := fun c => if c = a then some (.frz { cls := .type "list", data := .seq vs.toArray } (.lst (ns.map V.int))) else none
      have at0 : H0 a = some (.frz { cls := .type "list", data := .seq vs.toArray } (.lst (ns.map V.int))) := if_pos rfl
      have ne0 : ∀ c, c ≠ a → H0 c = none := fun c hc => if_neg hc
      refine core H0 (fun c => ?_) (.inl (.inr ⟨_, at0⟩)) (fun c u z => ?_) (fun c z => ?_) fun _ => hk
      · by_cases hc : c = a
        · exact .inr ⟨_, _, by rw [hc]; exact at0⟩
        · exact .inl (ne0 c hc)
      · by_cases hc : c = a
        · subst hc
          obtain rfl := Option.some.inj (at0.symm.trans z)
          exact ⟨ha, by rw [List.length_map]; exact hl, vs, _, rv, ha⟩
        · exact nomatch (ne0 c hc).symm.trans z
      · exact Classical.byContradiction fun hc => z (ne0 c hc)
  intro H hO hS hok hA hK
  have only : ∀ {c : Addr} {u : HO}, H c = some u → c = a := fun {c u} q => hA c (by rw [q]; exact Option.some_ne_none u)
  have stays : ∀ {c : Addr} {o : Obj} {es : Array DictEntry} {ep : Nat}, s.heap.get? c = some o → o.data = .dict es ep → H c = none := by
    intro c o es ep e d
    match q : H c with
    | none => rfl
    | some u =>
      rw [only q, ha] at e
      obtain rfl := Option.some.inj e
      cases (show Data.seq vs.toArray _ = Data.dict es ep from d)
  have ns' : ∀ {c : Addr} {m : Str → Option Value}, s.heap.Ns c m → (hidT s.heap H).Ns c m := by
    rintro c m ⟨o, es, ep, e, d, r⟩
    exact ⟨o, es, ep, hidT_get e (stays e d), d, r⟩
  have kin : K.In (hidT s.heap H) := by
    intro c o e
    refine hidT_get (KX c o e) ?_
    match q : H c with
    | none => rfl
    | some u =>
      have ec := only q
      subst ec
      rw [hK (by rw [q]; exact Option.some_ne_none u)] at e
      cases e
  obtain ⟨mc, l1, l2⟩ := hlim
  have M : Mod K mg (hidT s.heap H) := ⟨kin, ns' hns, ⟨mb, ns' hb, hbb⟩, ⟨mc, ns' l1, l2⟩⟩
  have e0 : Env0 P w K mg (hidT s.heap H) callerA [] s H :=
    ⟨rfl, M, fun c o e => of_hidT e, Nat.le_of_eq (hidT_size _ _), trivial, fun c hc => (List.not_mem_nil hc).elim, hok, .of_eq hg⟩
  have run := (F _ kin (ns' hns)).run callerA [] s H ⟨[.ref a], []⟩ [.ref a] [.ref a] _ _ hr e0 (hbind s (.ref a)) (.cons rfl .nil) (hsp H hO hS)
  refine codeAny_mono run fun res s' hq => ?_
  match res, hq with
  | .error e, hq => exact hq.elim
  | .ok .next, hq => exact hq.elim
  | .ok .brk, hq => exact hq.elim
  | .ok .cont, hq => exact hq.elim
  | .ok (.ret u), hq =>
    obtain ⟨v, H', os, bare, un, hok', r', q⟩ := hq
    obtain rfl : v = .bl true := q
    obtain rfl : u = Value.bool true := r'
    refine ⟨rfl, OldK.of_keep fun c o e => ?_, os, bare⟩
    rcases hO c with z | ⟨ob, xs, z⟩
    · exact un.keep c o e z List.not_mem_nil List.not_mem_nil
    · have z1 := (hok c _ z).1
      have z2 := (hok' c _ (un.frzs c ob _ z)).1
      exact z2.trans (z1.symm.trans e)

theorem walk_end {l : PySem.W.OpenLaw} {n k : Nat} {q : Program} {loose : List Str} {XP : (Str → Option Value) → Heap → Prop} {YP : World → Heap → Prop} {d : DefRec} {K : Params → PySem.W.Frag} {sp : PySem.W.Frag → Sp} {x : Str}
    (hn : l.most = some n) (hn2 : n ≤ sizeLine) (hdf : d.params.defaults = []) (hr : Rm k callerA) (hY : ∀ (w : World) (h : Heap), YP w h → (K w.params).In h)
    (F : ∀ (w : World) (mg : Str → Option Value) (fa : Addr) (h : Heap), (K w.params).In h → h.Ns mainGlobals mg → mg d.name = some (.ref fa) →
      ∃ fd : FuncData, (∀ (s : Shared) (u : Value), BindsTo s fd ⟨[u], []⟩ [(x, u)]) ∧
        ∀ b : Heap, (K w.params).In b → b.Ns mainGlobals mg → Keeps l.prog w (K w.params) mg b CX0 k fa fd [x] (sp (K w.params)))
    (hsp : ∀ (K : PySem.W.Frag) (H : Hp) (a : Addr) (ns : List Int), ns.length ≤ n → Only H → SqL K H a (ns.map V.int) → sp K [.ref a] H (fun v _ => v = .bl true) fun _ _ _ => False) :
    PySem.W.WalkO q loose XP YP l.row.toRowW d [] (fun f vs => PySem.call f vs) := by
  refine Att.attach_call hn hdf ?_
  intro w s₀ s₁ mg mb fa o pm cd doc a vs ns G Y ho hd hcd hmg hobj hints hlen hg
  have kin := hY w _ Y
  obtain ⟨fd, hb, hF⟩ := F w mg fa _ kin G.T.g hmg
  exact law_end kin G.T.g G.T.b G.T.builtins G.T.nolimit hg hobj hints (Nat.le_trans hlen hn2) hr hF hb fun H hO hS => hsp _ H a ns hlen hO hS
end Wg

/-! Wagon, part 2: heaps that are not written out, and the rules of operators, calls and methods in that style. -/
namespace Wg
open PySem PySem.Spec PyProof.Rows L2

/-- all but what stands at S is kept -/
def Keep (S : List Addr) (H H' : Hp) : Prop := ∀ b o, b ∉ S → H b = some o → H' b = some o
theorem Keep.at {S : List Addr} {H H' : Hp} {b : Addr} {o : HO} (k : Keep S H H') (n : b ∉ S) (h : H b = some o) : H' b = some o := k b o n h
theorem Keep.refl (S : List Addr) (H : Hp) : Keep S H H := fun _ _ _ h => h
theorem Keep.trans {S : List Addr} {H H1 H2 : Hp} (a : Keep S H H1) (b : Keep S H1 H2) : Keep S H H2 := fun c o n h => b c o n (a c o n h)
theorem Keep.wide {S T : List Addr} {H H' : Hp} (k : Keep S H H') (h : ∀ b ∈ S, b ∈ T) : Keep T H H' := fun b o n q => k b o (fun z => n (h b z)) q
theorem Keep.all {S : List Addr} {H H' : Hp} (k : Keep [] H H') : Keep S H H' := k.wide fun _ h => (List.not_mem_nil h).elim
theorem Keep.free {S : List Addr} {H H' : Hp} {b : Addr} (k : Keep S H H') (n : b ∉ S) (h : H' b = none) : H b = none := by
  match q : H b with
  | none => rfl
  | some o => exact nomatch h.symm.trans (k b o n q)
theorem Keep.new {S : List Addr} {H : Hp} {p : Addr} {o : HO} (h : H p = none) : Keep S H (upd H p o) := fun b u _ q => by
  rw [upd_ne (ne_of_none q h)]
  exact q
theorem Keep.set {H : Hp} {p : Addr} {o : HO} : Keep [p] H (upd H p o) := fun b u n q => by
  rw [upd_ne (fun z : b = p => n (by rw [z]; exact List.mem_singleton.mpr rfl))]
  exact q
theorem nin0 {b : Addr} : b ∉ ([] : List Addr) := List.not_mem_nil
theorem nin1 {a b : Addr} (h : b ≠ a) : b ∉ [a] := fun z => h (List.mem_singleton.mp z)
/-- a tuple that stands still, of no dict of its own -/
def Tup (H : Hp) (a : Addr) (xs : List V) : Prop := ∃ ob : Obj, H a = some (.frz ob (.tup xs)) ∧ ob.dict = none ∧ ob.slots = #[]
theorem Tup.sq {K : PySem.W.Frag} {H : Hp} {a : Addr} {xs : List V} (h : Tup H a xs) : SqT K H a xs := let ⟨ob, e, _⟩ := h; .inl (.inr ⟨ob, e⟩)
theorem Tup.keep {S : List Addr} {H H' : Hp} {a : Addr} {xs : List V} (h : Tup H a xs) (k : Keep S H H') (n : a ∉ S) : Tup H' a xs := let ⟨ob, e, d⟩ := h; ⟨ob, k a _ n e, d⟩
theorem Tup.inj {H : Hp} {a : Addr} {xs ys : List V} (h : Tup H a xs) (h' : Tup H a ys) : xs = ys := by
  obtain ⟨o1, e1, _⟩ := h
  obtain ⟨o2, e2, _⟩ := h'
  have q := Option.some.inj (e1.symm.trans e2)
  injection q with _ q
  exact HO.tup.inj q
theorem Tup.there {H : Hp} {a : Addr} {xs : List V} (h : Tup H a xs) : ∃ o, H a = some o := let ⟨ob, e, _⟩ := h; ⟨_, e⟩
theorem Tup.neL {H : Hp} {a b : Addr} {xs ys : List V} (h : Tup H a xs) (h' : H b = some (.lst ys)) : a ≠ b := fun z => by
  obtain ⟨o1, e1, _⟩ := h
  rw [z, h'] at e1
  cases e1
theorem Tup.neD {H : Hp} {a b : Addr} {xs : List V} {ys : List (Key × V)} (h : Tup H a xs) (h' : H b = some (.dK ys)) : a ≠ b := fun z => by
  obtain ⟨o1, e1, _⟩ := h
  rw [z, h'] at e1
  cases e1
theorem lst_sq {K : PySem.W.Frag} {H : Hp} {a : Addr} {xs : List V} (h : H a = some (.lst xs)) : SqL K H a xs := .inl (.inl h)
theorem sq_keep {K : PySem.W.Frag} {H H' : Hp} {S : List Addr} {a : Addr} {xs : List V} (h : SqL K H a xs) (k : Keep S H H') (n : a ∉ S) : SqL K H' a xs := by
  rcases h with (h | ⟨o, h⟩) | h
  · exact .inl (.inl (k _ _ n h))
  · exact .inl (.inr ⟨o, k _ _ n h⟩)
  · exact .inr h

/-- a new object o comes -/
def Mk (H : Hp) (o : HO) (Q : VK) : Prop := ∀ p H', H p = none → Keep [] H H' → H' p = some o → Q (.ref p) H'
/-- a new tuple comes -/
def Mt (H : Hp) (xs : List V) (Q : VK) : Prop := ∀ p H', H p = none → Keep [] H H' → Tup H' p xs → Q (.ref p) H'
/-- what stands at a is o from now on -/
def Ch (H : Hp) (a : Addr) (o : HO) (R : Hp → Prop) : Prop := ∀ H', Keep [a] H H' → H' a = some o → R H'
theorem Mk.at {H : Hp} {o : HO} {Q : VK} (h : Mk H o Q) (p : Addr) (n : H p = none) : Q (.ref p) (upd H p o) := h p _ n (Keep.new n) upd_same
theorem Ch.at {H : Hp} {a : Addr} {o : HO} {R : Hp → Prop} (h : Ch H a o R) : R (upd H a o) := h _ Keep.set upd_same

section
variable {X : Cx} {pins : List (Addr × Obj)} {σ : L2.St} {H : Hp} {s : Shared}
/-- a tuple object as the model lays it -/
abbrev tupObj (its : List Value) : Obj := { cls := .type "tuple", data := .seq its.toArray }
theorem mt_end {xs : List V} {its : List Value} {Q : VK} {t' : Nat} (I : Inv X pins σ H s) (r : Vals xs its) (z : xs.length ≤ sizeLine) (h : Mt H xs Q) :
    EP X pins σ Q (.ref s.heap.objs.size) { s with heap := s.heap.push (tupObj its), toks := t' } := by
  have n : H s.heap.objs.size = none := I.hok.fresh (Nat.le_refl _)
  have new : (s.heap.push (tupObj its)).get? s.heap.objs.size = some (tupObj its) := Heap.get?_push_size _ rfl
  refine ⟨.ref s.heap.objs.size, upd H s.heap.objs.size (.frz (tupObj its) (.tup xs)), I.laid (fun b u e => Heap.get?_push_of_some _ e) (Nat.le_refl _) ?_, rfl, ?_⟩
  · exact ⟨new, z, its, r, _, new, rfl, _, rfl⟩
  · exact h _ _ n (Keep.new n) ⟨_, upd_same, rfl, rfl⟩
/-- the object of such a tuple -/
theorem Tup.obj {a : Addr} {xs : List V} (I : Inv X pins σ H s) (h : Tup H a xs) : ∃ (its : List Value) (n : Nat), Vals xs its ∧ xs.length ≤ sizeLine ∧ s.heap.get? a = some { cls := .type "tuple", dict := none, data := .seq its.toArray n, slots := #[] } := by
  obtain ⟨ob, e, d, sl⟩ := h
  obtain ⟨h1, z, its, r, o2, h2, c, n, hd⟩ := I.hok a _ e
  have eo := Option.some.inj (h1.symm.trans h2)
  obtain ⟨c0, d0, da, s0⟩ := ob
  subst eo
  simp only at c hd d sl
  subst c hd d sl
  exact ⟨its, n, r, z, h1⟩
end

/-! ### operators -/
section
variable {X : Cx}
def uAdd (K : PySem.W.Frag) : R2 := fun x y H Q =>
  (∃ i j, x = .int i ∧ y = .int j ∧ Q (.int (i + j)) H) ∨
  (∃ i j, x = .str i ∧ y = .str j ∧ i.length + j.length ≤ sizeLine ∧ Q (.str (i ++ j)) H) ∨
  (∃ l b xs zs, x = .ref l ∧ y = .ref b ∧ H l = some (.lst xs) ∧ H b = some (.lst zs) ∧ xs.length + zs.length ≤ sizeLine ∧ Mk H (.lst (xs ++ zs)) Q) ∨
  (∃ a b xs ys, x = .ref a ∧ y = .ref b ∧ Tup H a xs ∧ Tup H b ys ∧ xs.length + ys.length ≤ sizeLine ∧ (xs = [] → Q y H) ∧ (xs ≠ [] → ys = [] → Q x H) ∧ (xs ≠ [] → ys ≠ [] → Mt H (xs ++ ys) Q))
theorem cat_none {pins : List (Addr × Obj)} {σ : L2.St} {H : Hp} {s : Shared} {a b : Addr} {ys : List V} {Q : VK} (I : Inv X pins σ H s) (ha : Tup H a []) (hb : Tup H b ys) (q : Q (.ref b) H) :
    wpAny (model X.prog X.w) X.A (binaryOp .Add (.ref a) (.ref b)) (EP X pins σ Q) X.xe s := by
  obtain ⟨its, n, r, _, ho⟩ := ha.obj I
  obtain ⟨its2, n2, r2, _, ho2⟩ := hb.obj I
  cases r
  exact concat_meets ⟨_, ho, rfl⟩ ⟨_, ho2, rfl⟩ noFill_tuple_add seq_tuple_add PySem.F.slot_tuple_add PySem.F.entry_tuple_add (PySem.F.args_tuple_add_2 _ _)
    (AutoSeq1.tuple___add___tuple_tuple_0 a #[] n b its2.toArray n2 rfl) ⟨ho, ho2, ⟨.ref b, H, I, rfl, q⟩⟩
theorem op_uAdd : OpR X (binaryOp .Add) (uAdd X.K) := by
  intro pins s σ H x y v u Q I rx ry h
  rcases h with h | h | h | ⟨a, b, xs, ys, rfl, rfl, ha, hb, z, q0, q1, q2⟩
  · exact op_add pins s σ H x y v u Q I rx ry h
  · exact op_add_str pins s σ H x y v u Q I rx ry h
  · obtain ⟨l, b, xs, zs, e1, e2, h1, h2, h3, q⟩ := h
    exact op_cat pins s σ H x y v u Q I rx ry ⟨l, b, xs, zs, e1, e2, h1, h2, h3, fun p n => q.at p n⟩
  · cases rx
    cases ry
    by_cases e : xs = []
    · subst e
      exact cat_none I ha hb (q0 rfl)
    · obtain ⟨its, r1, p1, _⟩ := I.tuple ha.sq
      obtain ⟨its2, r2, p2, _⟩ := I.tuple hb.sq
      refine HT.cat_tup p1 p2 (fun c => e (r1.nil_iff.mp c)) (fun c => ⟨.ref a, H, I, rfl, q1 e (r2.nil_iff.mp c)⟩) (fun c => ?_) (by rw [← r1.length, ← r2.length]; exact z)
      exact mt_end (t' := s.toks) I (r1.append r2) (by rw [List.length_append]; exact z) (q2 e fun d => c (r2.nil_iff.mpr d))
def uMul : R2 := fun x y H Q =>
  (∃ i j, x = .int i ∧ y = .int j ∧ CMul i j ∧ Q (.int (i * j)) H) ∨
  (∃ l k xs, x = .ref l ∧ y = .int k ∧ H l = some (.lst xs) ∧ -(2 ^ 63) ≤ k ∧ k < 2 ^ 63 ∧ xs.length * k.toNat ≤ sizeLine ∧ Mk H (.lst (List.replicate k.toNat xs).flatten) Q)
theorem op_uMul : OpR X (binaryOp .Mult) uMul := by
  intro pins s σ H x y v u Q I rx ry h
  rcases h with h | ⟨l, k, xs, e1, e2, h1, h2, h3, h4, q⟩
  · exact op_mul pins s σ H x y v u Q I rx ry h
  · exact op_rep pins s σ H x y v u Q I rx ry ⟨l, k, xs, e1, e2, h1, h2, h3, h4, fun p n => q.at p n⟩
/-- data that are compared -/
def uEq (K : PySem.W.Frag) (neg : Bool) : R2 := fun x y H Q =>
  (scal x y = true ∧ Q (.bl (if neg then !decide (x = y) else decide (x = y))) H) ∨
  (∃ d e, Dp K H x d ∧ Dp K H y e ∧ SeqAt.shaped d = true ∧ SeqAt.shaped e = true ∧ Q (.bl (if neg then !PyData.eqv d e else PyData.eqv d e)) H)
theorem op_uEq (hu : X.A.units + 64 < cLine) : OpR X (compareOp .Eq) (uEq X.K false) := by
  intro pins s σ H x y v u Q I rx ry h
  rcases h with h | h
  · exact op_eq pins s σ H x y v u Q I rx ry h
  · exact op_eqD hu pins s σ H x y v u Q I rx ry h
theorem op_uNe (hu : X.A.units + 64 < cLine) : OpR X (compareOp .NotEq) (uEq X.K true) := by
  intro pins s σ H x y v u Q I rx ry h
  rcases h with h | h
  · exact op_ne pins s σ H x y v u Q I rx ry h
  · exact op_neD hu pins s σ H x y v u Q I rx ry h
def uIn (K : PySem.W.Frag) (neg : Bool) : R2 := fun x y H Q =>
  (∃ p xs, y = .ref p ∧ (SqL K H p xs ∨ SqT K H p xs) ∧ flatV x = true ∧ xs.all flatV = true ∧ Q (.bl (if neg then !inV x xs else inV x xs)) H) ∨
  (∃ c z : Str, x = .str c ∧ y = .str z ∧ Q (.bl (if neg then !(!(Builtin.Str.occurrences z c 0 z.length 1).isEmpty) else !(Builtin.Str.occurrences z c 0 z.length 1).isEmpty)) H)
theorem op_uIn : OpR X (compareOp .In) (uIn X.K false) := by
  intro pins s σ H x y v u Q I rx ry h
  rcases h with h | ⟨i, j, e1, e2, q⟩
  · exact op_in_seq pins s σ H x y v u Q I rx ry h
  · exact op_in_str pins s σ H x y v u Q I rx ry ⟨i, j, e1, e2, q⟩
theorem op_uNotIn : OpR X (compareOp .NotIn) (uIn X.K true) := by
  intro pins s σ H x y v u Q I rx ry h
  rcases h with h | ⟨i, j, e1, e2, q⟩
  · exact op_notIn_seq pins s σ H x y v u Q I rx ry h
  · exact op_notIn_str pins s σ H x y v u Q I rx ry ⟨i, j, e1, e2, q⟩
end

/-! ### subscripts, slices -/
section
variable {X : Cx}
def uIx (K : PySem.W.Frag) : R2 := fun x y H Q =>
  (∃ p xs i v, x = .ref p ∧ y = .int i ∧ (SqL K H p xs ∨ SqT K H p xs) ∧ atI xs i = some v ∧ Q v H) ∨
  (∃ z i c, x = .str z ∧ y = .int i ∧ z.length ≤ sizeLine ∧ atI z.cps.toList i = some c ∧ Q (.str ⟨#[c]⟩) H)
theorem ix_u : IxR X (uIx X.K) := by
  intro ve se pins s σ H x y v u Q I rx ry h hs
  rcases h with ⟨p, xs, i, w, e1, e2, hq, ha, q⟩ | h
  · rcases hq with hq | hq
    · exact ix_list ve se pins s σ H x y v u Q I rx ry ⟨p, xs, i, w, e1, e2, hq, ha, q⟩ hs
    · exact ix_tup ve se pins s σ H x y v u Q I rx ry ⟨p, xs, i, w, e1, e2, hq, ha, q⟩ hs
  · exact ix_str ve se pins s σ H x y v u Q I rx ry h hs
def uSetL : V → V → V → Hp → (Hp → Prop) → Prop := fun o i v H Q => ∃ p xs k j, o = .ref p ∧ i = .int k ∧ H p = some (.lst xs) ∧ ixN xs.length k = some j ∧ Ch H p (.lst (xs.set j v)) Q
theorem set_u : PSet X uSetL := by
  intro pins s σ H o i v ov iv u Q I r1 r2 r3 h
  obtain ⟨p, xs, k, j, e1, e2, h1, h2, q⟩ := h
  exact set_list pins s σ H o i v ov iv u Q I r1 r2 r3 ⟨p, xs, k, j, e1, e2, h1, h2, q.at⟩
end
end Wg

/-! Wagon, part 3: displays, slices, calls of built-ins, repr of data. -/
namespace Wg
open PySem PySem.Spec PyProof.Rows L2

/-! ### displays -/
section
variable {X : Cx} {es : List Expr} {t : TA} {pos : Pos}
def tTupU (t : TA) : TE := fun σ H Q => t σ H fun xs H1 => xs.length ≤ sizeLine ∧ Mt H1 xs Q
def tLstU (t : TA) : TE := fun σ H Q => t σ H fun xs H1 => xs.length ≤ sizeLine ∧ Mk H1 (.lst xs) Q
theorem pe_tupU {k : Nat} (h : PA X es t) : PE X (.Tuple es k pos) (tTupU t) := by
  constructor
  intro pins s σ H Q I hq
  have run := h.run pos pins s σ H _ I hq
  refine wpAny_Tuple_spliced (thn run fun us s1 r => ?_)
  obtain ⟨xs, H1, I1, rv, z, q⟩ := r
  rw [← rv.length]
  exact ⟨z, mt_end (t' := s1.toks) I1 rv z q⟩
theorem pe_lstU (h : PA X es t) : PE X (.List es pos) (tLstU t) := by
  constructor
  intro pins s σ H Q I hq
  have run := h.run pos pins s σ H _ I hq
  refine wpAny_List_spliced (thn run fun us s1 r => ?_)
  obtain ⟨xs, H1, I1, rv, z, q⟩ := r
  rw [← rv.length]
  have n := I1.fresh
  have new : ObjOk X.prog X.w (upd H1 s1.heap.objs.size (.lst xs)) (s1.heap.push { cls := .type "list", data := .seq us.toArray }) s1.heap.objs.size (.lst xs) := ⟨z, us, 0, rv, Heap.get?_push_size _ rfl⟩
  exact ⟨z, .ref s1.heap.objs.size, _, I1.laid (t' := s1.toks) (fun b u e => Heap.get?_push_of_some _ e) (Nat.le_refl _) new, rfl, q.at _ n⟩
def tDNewU : TE := fun _ H Q => Mk H (.dK []) Q
theorem pe_dnewU : PE X (.Dict [] [] pos) tDNewU := ⟨fun pins s σ H Q I h => pe_dnewK.run pins s σ H Q I fun p n => h.at p n⟩
/-- {k: v} of two names -/
def tDic1 (i j : Nat) : TE := fun σ H Q => ∃ x : V, σ[i]? = some (some x) ∧ ∃ y : V, σ[j]? = some (some y) ∧ ∃ k : Key, x = kV k ∧ Mk H (.dK [(k, y)]) Q
theorem pe_dic1 {k v : Expr} {i j : Nat} (hk : PE X k (tVar i)) (hv : PE X v (tVar j)) : PE X (.Dict [some k] [v] pos) (tDic1 i j) := by
  constructor
  intro pins s σ H Q I h
  obtain ⟨x, e1, y, e2, kk, rfl, q⟩ := h
  refine (pe_disp (pps_cons hk hv pps_nil) rfl rfl (by simp) (by simp)).run pins s σ H Q I fun p n => ?_
  refine ⟨_, e1, _, e2, upd_same, [(kk, y)], rfl, by simp, ?_⟩
  rw [upd_upd]
  exact q.at p n
end

/-! ### slices -/
section
variable {prog : Program} {w : World} {A : Around} {E : Value → Shared → Prop} {s : Shared}
/-- t[..] of all of t is t -/
theorem cut_whole {t sl : Addr} {items : Array Value} {vl vu : Value} {lo hi : Option Int} {Q : Value → Shared → Prop} (ht : IsTup s.heap t items) (hs : s.heap.IsSliceOf sl vl vu .none) (pl : IsPart vl lo) (pu : IsPart vu hi)
    (h0 : HT.sIx items.size 0 lo = 0) (h1 : HT.sIx items.size items.size hi = items.size) (h : Q (.ref t) s) : wpAny (model prog w) A (getItem (.ref t) (.ref sl)) Q E s := by
  obtain ⟨os, hos, hcs, hds⟩ := id hs
  have tysl : s.TypeIs (.ref sl) "slice" := ⟨os, hos, hcs⟩
  unfold getItem
  try with_reducible refine wpAny_holding ?_
  first | refine wpAny_bind (wpAny_pure ?_) | skip
  refine wpAny_bind (wpAny_sequenceKey ht.typeIs (by decide) ?_)
  refine wpAny_bind (wpAny_callSpecial?_slot (name := Str.ofString "__getitem__") ht.typeIs PyProof.Rows.slot_tuple_getitem
    (wpAny_call_entry PyProof.Rows.slot_tuple_getitem ht.typeIs entry_tuple_getitem ?_ (args_tuple_getitem _ _)))
  show wpAny _ _ (Builtin.Tuple.tupleItemsOf (.ref t) >>= _) _ _ s
  refine wpAny_bind (tupleItemsOf_ ht (wpAny_bind (wpAny_typeOf tysl ?_)))
  rw [if_pos (by decide)]
  refine wpAny_bind (HT.sliceApplied_gen hs pl pu ?_)
  rw [h0, h1]
  show wpAny _ _ (if ((((0 : Nat) : Int) == 0 && (1 : Int) == 1 && (items.size - 0) == items.size) = true) then _ else _) _ _ s
  rw [if_pos (by simp)]
  refine wpAny_bind (m := Builtin.Tuple.tupleIsExact _) ?_
  unfold Builtin.Tuple.tupleIsExact
  refine wpAny_bind (wpAny_typeOf ht.typeIs (wpAny_pure ?_))
  rw [if_pos (by decide)]
  exact wpAny_bind (wpAny_rule (wpAny_pure ⟨_, rfl, wpAny_pure h⟩))
end
section
variable {X : Cx}
def uSl (K : PySem.W.Frag) : V → Option Int → Option Int → Hp → VK → Prop := fun x lo hi H Q =>
  (∃ a xs, x = .ref a ∧ SqL K H a xs ∧ Mk H (.lst (cutV xs lo hi)) Q) ∨
  (∃ z, x = .str z ∧ z.length ≤ sizeLine ∧ Q (.str (cutS z lo hi)) H) ∨
  (∃ a xs, x = .ref a ∧ Tup H a xs ∧ ((HT.sIx xs.length 0 lo = 0 ∧ HT.sIx xs.length xs.length hi = xs.length) → Q (.ref a) H) ∧
    (¬ (HT.sIx xs.length 0 lo = 0 ∧ HT.sIx xs.length xs.length hi = xs.length) → Mt H (cutV xs lo hi) Q))
theorem sl_u : SlR X (uSl X.K) := by
  intro pins s σ H x v vl vu lo hi sl Q I rx hs pl pu h
  rcases h with ⟨a, xs, e, hx, q⟩ | h | ⟨a, xs, rfl, hx, q1, q2⟩
  · exact sl_list pins s σ H x v vl vu lo hi sl Q I rx hs pl pu ⟨a, xs, e, hx, fun p n => q.at p n⟩
  · exact sl_str pins s σ H x v vl vu lo hi sl Q I rx hs pl pu h
  · cases rx
    obtain ⟨its, r, ht, hz⟩ := I.tuple hx.sq
    have hlen : its.toArray.size = xs.length := by
      rw [List.size_toArray]
      exact r.length.symm
    refine ⟨"tuple", _, PyProof.Rows.slot_tuple_getitem.lookup, ht.typeIs, ?_⟩
    by_cases c : HT.sIx xs.length 0 lo = 0 ∧ HT.sIx xs.length xs.length hi = xs.length
    · exact cut_whole ht hs pl pu (by rw [hlen]; exact c.1) (by rw [hlen]; exact c.2) ⟨.ref a, H, I, rfl, q1 c⟩
    · refine HT.getItem_tuple_cut ht hs pl pu (by rw [hlen]; exact c) ?_ (by rw [hlen]; exact hz)
      rw [hlen]
      refine mt_end (t' := s.toks) I ((r.drop (HT.sIx xs.length 0 lo)).take (HT.sIx xs.length xs.length hi - HT.sIx xs.length 0 lo)) (Nat.le_trans (cutV_length xs lo hi) hz) (q2 c)
end

/-! ### calls -/
section
variable {X : Cx}
def uList (K : PySem.W.Frag) : List V → Hp → VK → Prop := fun xs H Q => ∃ p ys, xs = [.ref p] ∧ (SqL K H p ys ∨ SqT K H p ys) ∧ Mk H (.lst ys) Q
theorem call_uList : CallR X (.type "list") (uList X.K) := by
  intro pins s σ H xs us Q I r h
  obtain ⟨p, ys, e, hq, q⟩ := h
  exact call_list_of pins s σ H xs us Q I r ⟨p, ys, e, hq, fun l n => q.at l n⟩
def uTuple (K : PySem.W.Frag) : List V → Hp → VK → Prop := fun xs H Q => ∃ p ys, xs = [.ref p] ∧ ((SqL K H p ys ∧ Mt H ys Q) ∨ (SqT K H p ys ∧ Q (.ref p) H))
theorem call_uTuple : CallR X (.type "tuple") (uTuple X.K) := by
  intro pins s σ H xs us Q I r h
  obtain ⟨p, ys, rfl, h⟩ := h
  obtain ⟨u, rfl, rx⟩ := vals1 r
  cases rx
  rcases h with ⟨hq, q⟩ | ⟨hq, q⟩
  · obtain ⟨its, r', pl, hz⟩ := I.list hq
    have hlen := r'.length
    refine call_tuple_list pl.isList (fun h' kp => ?_) (by simp only [List.size_toArray] <;> omega)
    exact mt_end (t' := s.toks) (I.kept (t' := s.toks) kp) r' hz q
  · obtain ⟨its, r', pl, hz⟩ := I.tuple hq
    exact call_tuple_same pl ⟨.ref p, H, I, rfl, q⟩
/-- what repr tells of data -/
def uRepr (K : PySem.W.Frag) : List V → Hp → VK → Prop := fun xs H Q => ∃ v d, xs = [v] ∧ Dp K H v d ∧ d.showable = true ∧ d.depth ≤ 100 ∧ d.shown.length ≤ sizeLine ∧ Q (.str d.shown) H
theorem dp_noDict {K : PySem.W.Frag} {H : Hp} : ∀ {v : V} {d : PyData}, Dp K H v d → d.hasDict = false := by
  intro v d h
  refine Dp.rec (motive_1 := fun v d _ => d.hasDict = false) (motive_2 := fun vs ds _ => PyData.hasDictAll ds = false) ?_ ?_ ?_ ?_ ?_ ?_ ?_ ?_ h
  all_goals intros
  all_goals (try simp only [PyData.hasDict, PyData.hasDictAll, Bool.or_eq_false_iff])
  all_goals (try assumption)
  all_goals (try (constructor <;> assumption))
theorem call_uRepr (hr : Rm 1 X.A) : CallR X (.builtin "repr") (uRepr X.K) := by
  intro pins s σ H xs us Q I r h
  obtain ⟨v, d, rfl, hd, hs, hdep, hz, q⟩ := h
  obtain ⟨u, rfl, rx⟩ := vals1 r
  have hu : X.A.units + (d.depth + 1) < cLine := by
    have := hr.rm.un
    omega
  have hno := dp_noDict hd
  cases hd with
  | non => cases rx; exact PySem.P.repr_of_none ⟨.str _, H, I.tok _, ⟨_, rfl⟩, q⟩
  | bl b => cases rx; exact PySem.P.repr_of_bool ⟨.str _, H, I.tok _, ⟨_, rfl⟩, q⟩
  | int i =>
    obtain ⟨t, rfl⟩ := rx
    exact PySem.P.repr_of_int (of_decide_eq_true hs) ⟨.str _, H, I.tok _, ⟨_, rfl⟩, q⟩
  | str x =>
    obtain ⟨t, rfl⟩ := rx
    exact PySem.P.repr_of_str ⟨.str _, H, I.tok _, ⟨_, rfl⟩, q⟩ hz
  | lst hl ha =>
    cases rx
    obtain ⟨as, rd⟩ := Dp.reads I _ _ _ (.lst hl ha) rfl
    refine repr_of_reads' rd hs (fun z => absurd z (by rw [hno]; exact Bool.false_ne_true)) hr.gd hu (fun _ _ e => e) (fun h' u tk hk => ?_) hz
    exact ⟨.str _, H, I.kept (t' := tk) hk, ⟨_, rfl⟩, q⟩
  | tup hl ha =>
    cases rx
    obtain ⟨as, rd⟩ := Dp.reads I _ _ _ (.tup hl ha) rfl
    refine repr_of_reads' rd hs (fun z => absurd z (by rw [hno]; exact Bool.false_ne_true)) hr.gd hu (fun _ _ e => e) (fun h' u tk hk => ?_) hz
    exact ⟨.str _, H, I.kept (t' := tk) hk, ⟨_, rfl⟩, q⟩
end
end Wg

/-! Wagon, part 4: what is walked; words for defs and their bodies. -/
namespace Wg
open PySem PySem.Spec PyProof.Rows L2

section
variable {X : Cx}
/-- an expression's truth -/
def tTru (K : PySem.W.Frag) (ta : TE) : TT := fun σ H Q => ta σ H fun x H' => ∃ k, TruV K x H' k ∧ Q k H'
theorem pt_tru {a : Expr} {ta : TE} (ha : PE X a ta) (he : ∀ whole, isTrue a X.env whole = (do let v ← whole; standAt a.pos; holding [v] (truthy v)) := by intro _; rfl) : PT X a (tTru X.K ta) := pt_truth ha he
/-- a list, a tuple or a text that is walked -/
def iU (K : PySem.W.Frag) (tl : TE) : TI := fun σ H R => tl σ H fun x H1 =>
  (∃ a xs, x = .ref a ∧ SqL K H1 a xs ∧ R (Itl K a) H1) ∨ (∃ a xs, x = .ref a ∧ SqT K H1 a xs ∧ R (Itt K a) H1) ∨ (∃ z, x = .str z ∧ R (Its z) H1)
theorem pi_u {tg l : Expr} {tl : TE} (hl : PE X l tl) : PI X tg l (iU X.K tl) := by
  constructor
  intro pins s σ H R I h
  have run := hl.run pins s σ H _ I h
  refine thn run fun v s1 e => ?_
  obtain ⟨x, H1, I1, r1, q1⟩ := e
  have new : ∀ {o : Obj} {b : Addr}, b ∈ [s1.heap.objs.size] → FpOk X pins H1 b := fun {o b} hb => by
    rw [List.mem_singleton.mp hb]
    exact I1.fpOk (Nat.le_refl _) I1.fresh
  rcases q1 with ⟨a, xs, rfl, hq, q⟩ | ⟨a, xs, rfl, hq, q⟩ | ⟨z, rfl, q⟩
  · cases r1
    obtain ⟨its, rv, p, hz⟩ := I1.list hq
    refine wpAny_pyIter_list p.isList ⟨_, [s1.heap.objs.size], _, _, H1, rfl, I1.kept (t' := s1.toks) fun b o e => Heap.get?_push_of_some _ e, turn_list a _, ?_, fun b hb => ?_, q⟩
    · exact ⟨_, Heap.get?_push_size _ rfl, rfl, rfl⟩
    · exact new (o := default) hb
  · cases r1
    obtain ⟨its, rv, p, hz⟩ := I1.tuple hq
    refine wpAny_pyIter_tuple (show s1.heap.IsTuple a its.toArray from p) ⟨_, [s1.heap.objs.size], _, _, H1, rfl, I1.kept (t' := s1.toks) fun b o e => Heap.get?_push_of_some _ e, turn_tuple a _, ?_, fun b hb => ?_, q⟩
    · exact ⟨_, Heap.get?_push_size _ rfl, rfl, rfl⟩
    · exact new (o := default) hb
  · obtain ⟨t, rfl⟩ := r1
    match ha : z.cps.all (· < 128) with
    | false => exact wpAny_pyIter_wide ha (pi_one (tk := s1.toks) I1 _ (turn_str _ z t "str_iterator" (.inr rfl)) ⟨_, Heap.get?_push_size _ rfl, rfl, rfl⟩ q)
    | true => exact wpAny_pyIter_ascii ha (pi_one (tk := s1.toks) I1 _ (turn_str _ z t "str_ascii_iterator" (.inl rfl)) ⟨_, Heap.get?_push_size _ rfl, rfl, rfl⟩ q)
end

/-- a body as a promise: the values in the slots at the beginning -/
def run (t : TS) (σ : L2.St) (H : Hp) (Q : VK) : Prop := t { nx := fun _ H' => Q .non H', rt := Q } σ H
end Wg

namespace Wg
open PySem PySem.Spec PyProof.Rows L2
/-- a def of the text where it stands -/
structure Fn (K : PySem.W.Frag) (mg : Str → Option Value) (x : Str) (st : Stmt) (f : Addr) (fd : FuncData) (ps : List Str) : Prop where
  fn : Fun K x x st f fd
  g : mg x = some (.ref f)
  b : Binds K fd ps []

/-! ### data that stand still -/
mutual
inductive Dt (K : PySem.W.Frag) (H : Hp) : V → PyData → Prop
  | non : Dt K H .non .none
  | bl (b : Bool) : Dt K H (.bl b) (.bool b)
  | int (i : Int) : Dt K H (.int i) (.int i)
  | str (x : Str) : Dt K H (.str x) (.str x)
  | tup {a : Addr} {xs : List V} {ds : List PyData} : Tup H a xs → DtAll K H xs ds → Dt K H (.ref a) (.tuple ds)
inductive DtAll (K : PySem.W.Frag) (H : Hp) : List V → List PyData → Prop
  | nil : DtAll K H [] []
  | cons {v : V} {vs : List V} {d : PyData} {ds : List PyData} : Dt K H v d → DtAll K H vs ds → DtAll K H (v :: vs) (d :: ds)
end
mutual
theorem Dt.dp {K : PySem.W.Frag} {H : Hp} : ∀ {v : V} {d : PyData}, Dt K H v d → Dp K H v d
  | _, _, .non => .non
  | _, _, .bl b => .bl b
  | _, _, .int i => .int i
  | _, _, .str x => .str x
  | _, _, .tup t a => .tup t.sq a.dp
theorem DtAll.dp {K : PySem.W.Frag} {H : Hp} : ∀ {vs : List V} {ds : List PyData}, DtAll K H vs ds → DpAll K H vs ds
  | _, _, .nil => .nil
  | _, _, .cons h r => .cons h.dp r.dp
end
mutual
theorem Dt.reads {X : Cx} {pins : List (Addr × Obj)} {σ : L2.St} {H : Hp} {s : Shared} {K : PySem.W.Frag} (I : Inv X pins σ H s) : ∀ {v : V} {d : PyData}, Dt K H v d → ∀ {u : Value}, RelV v u → Reads s.heap u d []
  | _, _, .non, u, r => by cases r; exact .none
  | _, _, .bl b, u, r => by cases r; exact .bool b
  | _, _, .int i, u, r => by obtain ⟨t, rfl⟩ := r; exact .int i t
  | _, _, .str x, u, r => by obtain ⟨t, rfl⟩ := r; exact .str x t
  | _, _, .tup (a := a) t q, u, r => by
    cases r
    obtain ⟨its, n, rv, z, ho⟩ := t.obj I
    exact .tuple ho rfl rfl (DtAll.reads I q rv)
theorem DtAll.reads {X : Cx} {pins : List (Addr × Obj)} {σ : L2.St} {H : Hp} {s : Shared} {K : PySem.W.Frag} (I : Inv X pins σ H s) : ∀ {vs : List V} {ds : List PyData}, DtAll K H vs ds → ∀ {us : List Value}, Vals vs us → ReadsAll s.heap us ds []
  | _, _, .nil, _, r => by cases r; exact .nil
  | _, _, .cons h q, _, r => by
    cases r with
    | cons r1 r2 => exact .cons (Dt.reads I h r1) (DtAll.reads I q r2)
end
mutual
/-- a change of what is no tuple leaves them -/
theorem Dt.keep {K : PySem.W.Frag} {S : List Addr} {H H' : Hp} (k : Keep S H H') (n : ∀ a xs, Tup H a xs → a ∉ S) : ∀ {v : V} {d : PyData}, Dt K H v d → Dt K H' v d
  | _, _, .non => .non
  | _, _, .bl b => .bl b
  | _, _, .int i => .int i
  | _, _, .str x => .str x
  | _, _, .tup t a => .tup (t.keep k (n _ _ t)) (DtAll.keep k n a)
theorem DtAll.keep {K : PySem.W.Frag} {S : List Addr} {H H' : Hp} (k : Keep S H H') (n : ∀ a xs, Tup H a xs → a ∉ S) : ∀ {vs : List V} {ds : List PyData}, DtAll K H vs ds → DtAll K H' vs ds
  | _, _, .nil => .nil
  | _, _, .cons h r => .cons (Dt.keep k n h) (DtAll.keep k n r)
end
def keyD : Key → PyData
  | .inl i => .int i
  | .inr x => .str x
theorem pairs_reads {X : Cx} {pins : List (Addr × Obj)} {σ : L2.St} {H : Hp} {s : Shared} {K : PySem.W.Frag} (I : Inv X pins σ H s) : ∀ {es : List DictEntry} {kvs : List (Key × V)} {us : List (Key × Value)} {ds : List PyData},
    PySem.Pairs (mixKind X.prog X.w) es us → KV kvs us → DtAll K H (kvs.map (·.2)) ds →
      ReadsAll s.heap (es.map (·.key)) (kvs.map fun p => keyD p.1) [] ∧ ReadsAll s.heap (es.map (·.val)) ds []
  | _, _, _, _, .nil, .nil, .nil => ⟨.nil, .nil⟩
  | e :: es, (k, v) :: kvs, (k', u) :: us, d :: ds, .cons h1 h2 hr, .cons ⟨q1, q2⟩ qr, .cons hd hds => by
    obtain ⟨r1, r2⟩ := pairs_reads I hr qr hds
    have q1' : k = k' := q1
    have q2' : RelV v u := q2
    have hv : e.val = u := h2
    have hk : keyIs k' e.key = true := h1
    subst q1'
    have rv : Reads s.heap e.val d [] := by
      rw [hv]
      exact hd.reads I q2'
    refine ⟨.cons (as := []) (bs := []) ?_ r1, .cons (as := []) (bs := []) rv r2⟩
    show Reads s.heap e.key (keyD k) []
    rcases keyIs_shape hk with ⟨i, t, rfl, e2⟩ | ⟨x, t, rfl, e2⟩
    · rw [e2]; exact .int i t
    · rw [e2]; exact .str x t

section
variable {X : Cx}
/-- what repr tells of a dict of such data -/
def uReprD (K : PySem.W.Frag) : List V → Hp → VK → Prop := fun xs H Q => ∃ (a : Addr) (kvs : List (Key × V)) (ds : List PyData), xs = [.ref a] ∧ H a = some (.dK kvs) ∧ DtAll K H (kvs.map (·.2)) ds ∧
  (PyData.dict ((kvs.map fun p => keyD p.1).zip ds)).showable = true ∧ (PyData.dict ((kvs.map fun p => keyD p.1).zip ds)).depth ≤ 100 ∧ (PyData.dict ((kvs.map fun p => keyD p.1).zip ds)).shown.length ≤ sizeLine ∧
  Q (.str (PyData.dict ((kvs.map fun p => keyD p.1).zip ds)).shown) H
theorem DtAll.len {K : PySem.W.Frag} {H : Hp} : ∀ {vs : List V} {ds : List PyData}, DtAll K H vs ds → vs.length = ds.length
  | _, _, .nil => rfl
  | _, _, .cons _ r => congrArg (· + 1) r.len
theorem call_uReprD (hr : Rm 1 X.A) : CallR X (.builtin "repr") (uReprD X.K) := by
  intro pins s σ H xs us Q I r h
  obtain ⟨a, kvs, ds, rfl, ha, hd, hs, hdep, hz, q⟩ := h
  obtain ⟨u, rfl, rx⟩ := vals1 r
  cases rx
  obtain ⟨z, hsy, ws, kv, o, es, ep, ho, ex, hdat, _, hp, _⟩ := I.hok a _ ha
  obtain ⟨r1, r2⟩ := pairs_reads I hp kv hd
  have hl := hd.len
  rw [List.length_map] at hl
  have e1 : ((kvs.map fun p => keyD p.1).zip ds).map (·.1) = kvs.map fun p => keyD p.1 := List.map_fst_zip (by rw [List.length_map]; omega)
  have e2 : ((kvs.map fun p => keyD p.1).zip ds).map (·.2) = ds := List.map_snd_zip (by rw [List.length_map]; omega)
  have rd : Reads s.heap (.ref a) (PyData.dict ((kvs.map fun p => keyD p.1).zip ds)) (a :: [] ++ []) := .dict ho ex.1 hdat (by rw [e1]; exact r1) (by rw [e2]; exact r2)
  have hu : X.A.units + ((PyData.dict ((kvs.map fun p => keyD p.1).zip ds)).depth + 1) < cLine := by
    have := hr.rm.un
    omega
  refine repr_of_reads' rd hs (fun _ hm => ?_) hr.gd hu (fun _ _ e => e) (fun h' u tk hk => ?_) hz
  · have e : sysModules = a := by simpa using hm
    rw [e] at hsy
    simp at hsy
  · exact ⟨.str _, H, I.kept (t' := tk) hk, ⟨_, rfl⟩, q⟩
def uRep (K : PySem.W.Frag) : List V → Hp → VK → Prop := fun xs H Q => uRepr K xs H Q ∨ uReprD K xs H Q
theorem call_uRep (hr : Rm 1 X.A) : CallR X (.builtin "repr") (uRep X.K) := (call_uRepr hr).or (call_uReprD hr)

def uLen (K : PySem.W.Frag) : List V → Hp → VK → Prop := fun xs H Q => ∃ x n, xs = [x] ∧ LenV K x H n ∧ Q (.int n) H
theorem call_uLen : CallR X (.builtin "len") (uLen X.K) := call_len
def uAbs : List V → Hp → VK → Prop := fun xs H Q => ∃ i, xs = [.int i] ∧ Q (.int (if i < 0 then -i else i)) H
theorem call_uAbs : CallR X (.builtin "abs") uAbs := call_abs
def uMax2 : List V → Hp → VK → Prop := fun xs H Q => ∃ i j, xs = [.int i, .int j] ∧ Q (.int (if j > i then j else i)) H
theorem call_uMax2 (hc : X.calm = true) : CallR X (.builtin "max") uMax2 := call_max2 hc
def uMin2 : List V → Hp → VK → Prop := fun xs H Q => ∃ i j, xs = [.int i, .int j] ∧ Q (.int (if j < i then j else i)) H
theorem call_uMin2 (hc : X.calm = true) : CallR X (.builtin "min") uMin2 := call_min2 hc
def uStr : List V → Hp → VK → Prop := fun xs H Q => ∃ i, xs = [.int i] ∧ i.natAbs.log2 < 1920 ∧ Q (.str (toString i)) H
theorem call_uStr : CallR X (.type "str") uStr := call_str_int
def uInt : List V → Hp → VK → Prop := fun xs H Q => (∃ i, xs = [.int i] ∧ Q (.int i) H) ∨ ∃ k, xs = [.bl k] ∧ Q (.int (if k then 1 else 0)) H
theorem call_uInt : CallR X (.type "int") uInt := call_int1
def rIsN : R2 := fun x y H Q => y = .non ∧ Q (.bl (decide (x = .non))) H
def rNotN : R2 := fun x y H Q => y = .non ∧ Q (.bl (!decide (x = .non))) H

/-! ### methods -/
def uAppend : V → List V → Hp → VK → Prop := fun x vs H Q => ∃ l xs y, x = .ref l ∧ vs = [y] ∧ H l = some (.lst xs) ∧ xs.length < sizeLine ∧ Ch H l (.lst (xs ++ [y])) (Q .non)
theorem mt_uAppend : MtM X "list.append" uAppend := by
  intro pins s σ H x vs v us Q I rx rv h
  obtain ⟨l, xs, y, e1, e2, h1, h2, q⟩ := h
  exact mt_append pins s σ H x vs v us Q I rx rv ⟨l, xs, y, e1, e2, h1, h2, q.at⟩
end
end Wg

/-! Wagon, part 5: how a reading goes on, construct by construct. -/
namespace Wg
open PySem PySem.Spec PyProof.Rows L2

section
variable {K : PySem.W.Frag} {H : Hp} {Q : VK} {i j : Int}
theorem e_rI {C : Int → Int → Prop} {g : Int → Int → V} : rI C g (.int i) (.int j) H Q ↔ C i j ∧ Q (g i j) H := by
  constructor
  · rintro ⟨a, b, e1, e2, c, q⟩
    cases e1; cases e2; exact ⟨c, q⟩
  · rintro ⟨c, q⟩; exact ⟨i, j, rfl, rfl, c, q⟩
theorem e_rI0 {g : Int → Int → V} : rI0 g (.int i) (.int j) H Q ↔ Q (g i j) H := by
  constructor
  · rintro ⟨a, b, e1, e2, q⟩
    cases e1; cases e2; exact q
  · intro q; exact ⟨i, j, rfl, rfl, q⟩
theorem e_rU {g : Int → V} : rU g (.int i) H Q ↔ Q (g i) H := by
  constructor
  · rintro ⟨a, e1, q⟩
    cases e1; exact q
  · intro q; exact ⟨i, rfl, q⟩
theorem e_addI : uAdd K (.int i) (.int j) H Q ↔ Q (.int (i + j)) H := by
  constructor
  · rintro (⟨a, b, e1, e2, q⟩ | ⟨a, b, e1, _⟩ | ⟨a, b, _, _, e1, _⟩ | ⟨a, b, _, _, e1, _⟩) <;> first | cases e1; cases e2; exact q | cases e1
  · intro q; exact .inl ⟨i, j, rfl, rfl, q⟩
theorem e_addS {x y : Str} : uAdd K (.str x) (.str y) H Q ↔ x.length + y.length ≤ sizeLine ∧ Q (.str (x ++ y)) H := by
  constructor
  · rintro (⟨a, b, e1, _⟩ | ⟨a, b, e1, e2, z, q⟩ | ⟨a, b, _, _, e1, _⟩ | ⟨a, b, _, _, e1, _⟩) <;> first | cases e1; cases e2; exact ⟨z, q⟩ | cases e1
  · rintro ⟨z, q⟩; exact .inr (.inl ⟨x, y, rfl, rfl, z, q⟩)
theorem e_mulI : uMul (.int i) (.int j) H Q ↔ CMul i j ∧ Q (.int (i * j)) H := by
  constructor
  · rintro (⟨a, b, e1, e2, c, q⟩ | ⟨a, b, _, e1, _⟩) <;> first | cases e1; cases e2; exact ⟨c, q⟩ | cases e1
  · rintro ⟨c, q⟩; exact .inl ⟨i, j, rfl, rfl, c, q⟩
theorem e_abs : uAbs [.int i] H Q ↔ Q (.int (if i < 0 then -i else i)) H := by
  constructor
  · rintro ⟨a, e1, q⟩
    cases e1; exact q
  · intro q; exact ⟨i, rfl, q⟩
theorem e_max2 : uMax2 [.int i, .int j] H Q ↔ Q (.int (if j > i then j else i)) H := by
  constructor
  · rintro ⟨a, b, e1, q⟩
    cases e1; exact q
  · intro q; exact ⟨i, j, rfl, q⟩
theorem e_min2 : uMin2 [.int i, .int j] H Q ↔ Q (.int (if j < i then j else i)) H := by
  constructor
  · rintro ⟨a, b, e1, q⟩
    cases e1; exact q
  · intro q; exact ⟨i, j, rfl, q⟩
theorem e_str : uStr [.int i] H Q ↔ i.natAbs.log2 < 1920 ∧ Q (.str (toString i)) H := by
  constructor
  · rintro ⟨a, e1, z, q⟩
    cases e1; exact ⟨z, q⟩
  · rintro ⟨z, q⟩; exact ⟨i, rfl, z, q⟩
theorem e_intI : uInt [.int i] H Q ↔ Q (.int i) H := by
  constructor
  · rintro (⟨a, e1, q⟩ | ⟨a, e1, q⟩) <;> cases e1; exact q
  · intro q; exact .inl ⟨i, rfl, q⟩
theorem e_intB {k : Bool} : uInt [.bl k] H Q ↔ Q (.int (if k then 1 else 0)) H := by
  constructor
  · rintro (⟨a, e1, q⟩ | ⟨a, e1, q⟩) <;> cases e1; exact q
  · intro q; exact .inr ⟨k, rfl, q⟩
theorem e_isN {x : V} : rIsN x .non H Q ↔ Q (.bl (decide (x = .non))) H := ⟨fun h => h.2, fun q => ⟨rfl, q⟩⟩
theorem e_notN {x : V} : rNotN x .non H Q ↔ Q (.bl (!decide (x = .non))) H := ⟨fun h => h.2, fun q => ⟨rfl, q⟩⟩
theorem e_truB {k k' : Bool} : TruV K (.bl k) H k' ↔ k' = k := Iff.rfl
theorem e_truI {k' : Bool} : TruV K (.int i) H k' ↔ k' = (i != 0) := Iff.rfl
/-- equality of scalars -/
theorem g_eq {x y : V} (h : scal x y = true) (q : Q (.bl (decide (x = y))) H) : uEq K false x y H Q := .inl ⟨h, by simpa using q⟩
theorem g_ne {x y : V} (h : scal x y = true) (q : Q (.bl (!decide (x = y))) H) : uEq K true x y H Q := .inl ⟨h, by simpa using q⟩
/-- an item of a list, of a tuple -/
theorem g_ixL {p : Addr} {xs : List V} {v : V} (h : H p = some (.lst xs)) (e : atI xs i = some v) (q : Q v H) : uIx K (.ref p) (.int i) H Q := .inl ⟨p, xs, i, v, rfl, rfl, .inl (lst_sq h), e, q⟩
theorem g_ixT {p : Addr} {xs : List V} {v : V} (h : Tup H p xs) (e : atI xs i = some v) (q : Q v H) : uIx K (.ref p) (.int i) H Q := .inl ⟨p, xs, i, v, rfl, rfl, .inr h.sq, e, q⟩
theorem g_ixQ {p : Addr} {xs : List V} {v : V} (h : SqL K H p xs) (e : atI xs i = some v) (q : Q v H) : uIx K (.ref p) (.int i) H Q := .inl ⟨p, xs, i, v, rfl, rfl, .inl h, e, q⟩
theorem g_ixS {z : Str} {c : Nat} (h : z.length ≤ sizeLine) (e : atI z.cps.toList i = some c) (q : Q (.str ⟨#[c]⟩) H) : uIx K (.str z) (.int i) H Q := .inr ⟨z, i, c, rfl, rfl, h, e, q⟩
/-- an item stored -/
theorem g_setL {p : Addr} {xs : List V} {v : V} {k : Nat} {R : Hp → Prop} (h : H p = some (.lst xs)) (e : ixN xs.length i = some k) (q : ∀ H', Keep [p] H H' → H' p = some (.lst (xs.set k v)) → R H') : uSetL (.ref p) (.int i) v H R :=
  ⟨p, xs, i, k, rfl, rfl, h, e, q⟩
theorem g_addL {a b : Addr} {xs ys : List V} (h1 : H a = some (.lst xs)) (h2 : H b = some (.lst ys)) (z : xs.length + ys.length ≤ sizeLine) (q : ∀ p H', H p = none → Keep [] H H' → H' p = some (.lst (xs ++ ys)) → Q (.ref p) H') : uAdd K (.ref a) (.ref b) H Q :=
  .inr (.inr (.inl ⟨a, b, xs, ys, rfl, rfl, h1, h2, z, q⟩))
theorem g_addT {a b : Addr} {xs ys : List V} (h1 : Tup H a xs) (h2 : Tup H b ys) (z : xs.length + ys.length ≤ sizeLine) (q : ∀ p H', Keep [] H H' → Tup H' p (xs ++ ys) → Q (.ref p) H') : uAdd K (.ref a) (.ref b) H Q := by
  refine .inr (.inr (.inr ⟨a, b, xs, ys, rfl, rfl, h1, h2, z, fun e => ?_, fun _ e => ?_, fun _ _ p H' _ k t => q p H' k t⟩))
  · subst e
    exact q b H (Keep.refl _ _) h2
  · subst e
    exact q a H (Keep.refl _ _) (by rw [List.append_nil]; exact h1)
theorem g_lenL {p : Addr} {xs : List V} (h : H p = some (.lst xs)) (q : Q (.int xs.length) H) : uLen K [.ref p] H Q := ⟨.ref p, xs.length, rfl, .inl ⟨xs, lst_sq h, rfl⟩, q⟩
theorem g_lenT {p : Addr} {xs : List V} (h : Tup H p xs) (q : Q (.int xs.length) H) : uLen K [.ref p] H Q := ⟨.ref p, xs.length, rfl, .inr ⟨xs, h.sq, rfl⟩, q⟩
theorem g_lenQ {p : Addr} {xs : List V} (h : SqL K H p xs) (q : Q (.int xs.length) H) : uLen K [.ref p] H Q := ⟨.ref p, xs.length, rfl, .inl ⟨xs, h, rfl⟩, q⟩
theorem g_lenS {z : Str} (h : z.length ≤ sizeLine) (q : Q (.int z.length) H) : uLen K [.str z] H Q := ⟨.str z, z.length, rfl, ⟨h, rfl⟩, q⟩
theorem g_repr {v : V} {d : PyData} (h : Dp K H v d) (h1 : d.showable = true) (h2 : d.depth ≤ 100) (h3 : d.shown.length ≤ sizeLine) (q : Q (.str d.shown) H) : uRep K [v] H Q := .inl ⟨v, d, rfl, h, h1, h2, h3, q⟩
theorem g_append {l : Addr} {xs : List V} {y : V} (h : H l = some (.lst xs)) (z : xs.length < sizeLine) (q : ∀ H', Keep [l] H H' → H' l = some (.lst (xs ++ [y])) → Q .non H') : uAppend (.ref l) [y] H Q := ⟨l, xs, y, rfl, rfl, h, z, q⟩
theorem g_listL {p : Addr} {ys : List V} (h : H p = some (.lst ys)) (q : ∀ l H', H l = none → Keep [] H H' → H' l = some (.lst ys) → Q (.ref l) H') : uList K [.ref p] H Q := ⟨p, ys, rfl, .inl (lst_sq h), q⟩
theorem g_listT {p : Addr} {ys : List V} (h : Tup H p ys) (q : ∀ l H', H l = none → Keep [] H H' → H' l = some (.lst ys) → Q (.ref l) H') : uList K [.ref p] H Q := ⟨p, ys, rfl, .inr h.sq, q⟩
theorem g_tupleL {p : Addr} {ys : List V} (h : H p = some (.lst ys)) (q : ∀ l H', H l = none → Keep [] H H' → Tup H' l ys → Q (.ref l) H') : uTuple K [.ref p] H Q := ⟨p, ys, rfl, .inl ⟨lst_sq h, q⟩⟩
theorem g_slL {p : Addr} {xs : List V} {lo hi : Option Int} (h : SqL K H p xs) (q : ∀ l H', H l = none → Keep [] H H' → H' l = some (.lst (cutV xs lo hi)) → Q (.ref l) H') : uSl K (.ref p) lo hi H Q := .inl ⟨p, xs, rfl, h, q⟩
theorem g_slS {z : Str} {lo hi : Option Int} (h : z.length ≤ sizeLine) (q : Q (.str (cutS z lo hi)) H) : uSl K (.str z) lo hi H Q := .inr (.inl ⟨z, rfl, h, q⟩)
theorem cut_all {xs : List V} {lo hi : Option Int} (h : HT.sIx xs.length 0 lo = 0 ∧ HT.sIx xs.length xs.length hi = xs.length) : cutV xs lo hi = xs := by
  unfold cutV
  rw [h.1, h.2]
  exact List.take_length
theorem g_slT {p : Addr} {xs : List V} {lo hi : Option Int} (h : Tup H p xs) (q : ∀ l H', Keep [] H H' → Tup H' l (cutV xs lo hi) → Q (.ref l) H') : uSl K (.ref p) lo hi H Q := by
  refine .inr (.inr ⟨p, xs, rfl, h, fun e => ?_, fun _ l H' _ k t => q l H' k t⟩)
  exact q p H (Keep.refl _ _) (by rw [cut_all e]; exact h)
/-- a slot's value by its place -/
theorem at_lit {α : Type} {xs : List α} {v : α} {i : Int} (j : Nat) (e : i = (j : Int)) (h : xs[j]? = some v) : atI xs i = some v := by
  subst e
  exact atI_nat h
end

/-! ### what isinstance tells -/
section
variable {K : PySem.W.Frag} {H : Hp} {Q : VK}
theorem ty_tup {a : Addr} {xs : List V} (h : Tup H a xs) : TyX K H (.ref a) (.type "tuple") := let ⟨_, e, _⟩ := h; .fTuple e
theorem g_isi {x : V} {n T : String} {k : Bool} (h : TyX K H x (.type n)) (e : kitB n T = some k) (q : Q (.bl k) H) : rIsi K [x, .ty T] H Q := ⟨x, .ty T, _, _, k, rfl, .ty T, h, kit_ty e, q⟩
end
theorem kit_int_int : kitB "int" "int" = some true := by decide +kernel
theorem kit_bool_int : kitB "bool" "int" = some true := by decide +kernel
theorem kit_str_int : kitB "str" "int" = some false := by decide +kernel
theorem kit_none_int : kitB "NoneType" "int" = some false := by decide +kernel
theorem kit_list_int : kitB "list" "int" = some false := by decide +kernel
theorem kit_tuple_int : kitB "tuple" "int" = some false := by decide +kernel
theorem kit_dict_int : kitB "dict" "int" = some false := by decide +kernel
theorem kit_int_bool : kitB "int" "bool" = some false := by decide +kernel
theorem kit_bool_bool : kitB "bool" "bool" = some true := by decide +kernel
theorem kit_str_bool : kitB "str" "bool" = some false := by decide +kernel
theorem kit_none_bool : kitB "NoneType" "bool" = some false := by decide +kernel
theorem kit_list_bool : kitB "list" "bool" = some false := by decide +kernel
theorem kit_tuple_bool : kitB "tuple" "bool" = some false := by decide +kernel
theorem kit_dict_bool : kitB "dict" "bool" = some false := by decide +kernel
end Wg

/-! Wagon, part 6: how long what repr tells is; things as a law's lists hold them. -/
namespace Wg
open PySem PySem.Spec PyProof.Rows L2

/-! ### how long -/
mutual
def cost : PyData → Nat
  | .none => 4
  | .bool _ => 5
  | .int _ => 1921
  | .str x => 10 * x.length + 2
  | .list xs => costs xs + 2
  | .tuple xs => costs xs + 3
  | .dict kvs => costKv kvs + 2
def costs : List PyData → Nat
  | [] => 0
  | x :: xs => cost x + 2 + costs xs
def costKv : List (PyData × PyData) → Nat
  | [] => 0
  | (k, v) :: r => cost k + 2 + cost v + 2 + costKv r
end
/-- texts of moderate signs, whole numbers that str can write -/
def signsOk (x : Str) : Prop := ∀ c ∈ x.cps.toList, c < 16 ^ 8
mutual
def fine : PyData → Prop
  | .none => True
  | .bool _ => True
  | .int i => i.natAbs.log2 < 1920
  | .str x => signsOk x
  | .list xs => fines xs
  | .tuple xs => fines xs
  | .dict kvs => fineKv kvs
def fines : List PyData → Prop
  | [] => True
  | x :: xs => fine x ∧ fines xs
def fineKv : List (PyData × PyData) → Prop
  | [] => True
  | (k, v) :: r => fine k ∧ fine v ∧ fineKv r
end
mutual
theorem fine_show : ∀ {d : PyData}, fine d → d.showable = true
  | .none, _ => rfl
  | .bool _, _ => rfl
  | .int i, h => decide_eq_true h
  | .str _, _ => rfl
  | .list xs, h => by simp only [PyData.showable]; exact fines_show h
  | .tuple xs, h => by simp only [PyData.showable]; exact fines_show h
  | .dict kvs, h => by simp only [PyData.showable]; exact fineKv_show h
theorem fines_show : ∀ {ds : List PyData}, fines ds → PyData.showableAll ds = true
  | [], _ => rfl
  | d :: ds, h => by simp only [PyData.showableAll, Bool.and_eq_true]; exact ⟨fine_show h.1, fines_show h.2⟩
theorem fineKv_show : ∀ {ds : List (PyData × PyData)}, fineKv ds → PyData.showableKv ds = true
  | [], _ => rfl
  | (k, v) :: ds, h => by simp only [PyData.showableKv, Bool.and_eq_true]; exact ⟨⟨fine_show h.1, fine_show h.2.1⟩, fineKv_show h.2.2⟩
end
theorem list_text (ts : List Str) : (listText ts).length ≤ piled ts + 2 := by
  have key : ∀ (ts : List Str) (k : Nat) (acc : Str), (textFrom k acc ts).length ≤ acc.length + piled ts := by
    intro ts
    induction ts with
    | nil =>
      intro k acc
      simp [textFrom, piled]
    | cons t r ih =>
      intro k acc
      have q := ih (k + 1) (acc ++ (if k > 0 then ", " else "" : String) ++ t)
      have e2 : (((if k > 0 then ", " else "" : String) : Str)).length ≤ 2 := by split <;> decide +kernel
      rw [strLen_append, strLen_append] at q
      show (textFrom (k + 1) (acc ++ (if k > 0 then ", " else "" : String) ++ t) r).length ≤ _
      rw [piled_cons]
      omega
  unfold listText
  have e1 : (("[" : String) : Str).length = 1 := rfl
  have e2 : (("]" : String) : Str).length = 1 := rfl
  have q := key ts 0 "["
  rw [strLen_append, e2]
  rw [e1] at q
  omega
theorem tuple_text (ts : List Str) : (tupleText ts).length ≤ piled ts + 3 := by
  unfold tupleText
  have e1 : (("(" : String) : Str).length = 1 := rfl
  have e3 : (((if ts.length == 1 then ",)" else ")" : String) : Str)).length ≤ 2 := by split <;> decide +kernel
  rw [strLen_append, strLen_append, e1]
  by_cases h : ts = []
  · subst h
    decide +kernel
  · have := join_length_add ts h
    omega
theorem dict_text (ts : List Str) : (dictText ts).length ≤ piled ts + 2 := by
  unfold dictText
  have e1 : (("{" : String) : Str).length = 1 := rfl
  have e3 : (("}" : String) : Str).length = 1 := rfl
  rw [strLen_append, strLen_append, e1, e3]
  by_cases h : ts = []
  · subst h
    decide +kernel
  · have := join_length_add ts h
    omega
mutual
theorem shown_le : ∀ {d : PyData}, fine d → d.shown.length ≤ cost d
  | .none, _ => by decide +kernel
  | .bool b, _ => by cases b <;> decide +kernel
  | .int i, h => by
    simp only [PyData.shown, cost]
    rw [PySem.ofString_length]
    exact int_text_length_le (by decide) h
  | .str x, h => by
    simp only [PyData.shown, cost]
    exact StrLaws.reprText_len x h
  | .list xs, h => by
    simp only [PyData.shown, cost]
    have := list_text (PyData.shownAll xs)
    have := shownAll_le h
    omega
  | .tuple xs, h => by
    simp only [PyData.shown, cost]
    have := tuple_text (PyData.shownAll xs)
    have := shownAll_le h
    omega
  | .dict kvs, h => by
    simp only [PyData.shown, cost]
    have := dict_text (PyData.shownKv kvs)
    have := shownKv_le h
    omega
theorem shownAll_le : ∀ {ds : List PyData}, fines ds → piled (PyData.shownAll ds) ≤ costs ds
  | [], _ => Nat.le_refl _
  | d :: ds, h => by
    have h1 := shown_le h.1
    have h2 := shownAll_le h.2
    simp only [PyData.shownAll, costs, piled_cons]
    omega
theorem shownKv_le : ∀ {ds : List (PyData × PyData)}, fineKv ds → piled (PyData.shownKv ds) ≤ costKv ds
  | [], _ => Nat.le_refl _
  | (k, v) :: ds, h => by
    have h1 := shown_le h.1
    have h2 := shown_le h.2.1
    have h3 := shownKv_le h.2.2
    have e : ((": " : String) : Str).length = 2 := rfl
    simp only [PyData.shownKv, costKv, piled_cons, strLen_append, e]
    omega
end
mutual
theorem Dp.keep {K : PySem.W.Frag} {H H' : Hp} (k : Keep [] H H') : ∀ {v : V} {d : PyData}, Dp K H v d → Dp K H' v d
  | _, _, .non => .non
  | _, _, .bl b => .bl b
  | _, _, .int i => .int i
  | _, _, .str x => .str x
  | _, _, .lst h q => .lst (sq_keep h k nin0) (DpAll.keep k q)
  | _, _, .tup h q => .tup (by
      rcases h with (h | ⟨o, h⟩) | h
      · exact .inl (.inl (k _ _ nin0 h))
      · exact .inl (.inr ⟨o, k _ _ nin0 h⟩)
      · exact .inr h) (DpAll.keep k q)
theorem DpAll.keep {K : PySem.W.Frag} {H H' : Hp} (k : Keep [] H H') : ∀ {vs : List V} {ds : List PyData}, DpAll K H vs ds → DpAll K H' vs ds
  | _, _, .nil => .nil
  | _, _, .cons h q => .cons (Dp.keep k h) (DpAll.keep k q)
end
/-- a thing that repr tells -/
inductive Th (K : PySem.W.Frag) (H : Hp) : V → PyData → Prop
  | dp {v : V} {d : PyData} : Dp K H v d → fine d → cost d ≤ 10000000 → d.depth ≤ 100 → Th K H v d
  | dic {a : Addr} {kvs : List (Key × V)} {ds : List PyData} : H a = some (.dK kvs) → DtAll K H (kvs.map (·.2)) ds → fine (.dict ((kvs.map fun p => keyD p.1).zip ds)) → cost (.dict ((kvs.map fun p => keyD p.1).zip ds)) ≤ 10000000 →
      (PyData.dict ((kvs.map fun p => keyD p.1).zip ds)).depth ≤ 100 → Th K H (.ref a) (.dict ((kvs.map fun p => keyD p.1).zip ds))
theorem line_big {n : Nat} (h : n ≤ 10000000) : n ≤ sizeLine := by
  rw [sizeLine_eq]
  omega
theorem g_rep {K : PySem.W.Frag} {H : Hp} {v : V} {d : PyData} {Q : VK} (h : Th K H v d) (q : Q (.str d.shown) H) : uRep K [v] H Q := by
  cases h with
  | dp h1 h2 h3 h4 => exact .inl ⟨v, d, rfl, h1, fine_show h2, h4, Nat.le_trans (shown_le h2) (line_big h3), q⟩
  | dic h1 h2 h3 h4 h5 => exact .inr ⟨_, _, _, rfl, h1, h2, fine_show h3, h5, Nat.le_trans (shown_le h3) (line_big h4), q⟩
theorem Th.keep {K : PySem.W.Frag} {H H' : Hp} (k : Keep [] H H') {v : V} {d : PyData} (h : Th K H v d) : Th K H' v d := by
  cases h with
  | dp h1 h2 h3 h4 => exact .dp (Dp.keep k h1) h2 h3 h4
  | dic h1 h2 h3 h4 h5 => exact .dic (k _ _ nin0 h1) (h2.keep k fun _ _ _ => nin0) h3 h4 h5
end Wg

/-! Wagon, part 7: loops and comprehensions by what holds ahead of each turn. -/
namespace Wg
open PySem PySem.Spec PyProof.Rows L2

/-- n turns, the i-th with the item it i -/
def Loop (n : Nat) (it : Nat → V) (g : TG) (tb : TS) (D : Ends) (σ : L2.St) (H : Hp) : Prop :=
  ∃ Pv : Nat → L2.St → Hp → Prop, Pv 0 σ H ∧ (∀ i σ H, i < n → Pv i σ H → g (it i) σ H fun σ2 H2 => tb { D with nx := Pv (i + 1), ct := Pv (i + 1), bk := D.nx } σ2 H2) ∧ ∀ σ H, Pv n σ H → D.nx σ H
/-- the same, told of the argument's end -/
theorem L_range1 {g : TG} {tb : TS} {D : Ends} {σ : L2.St} {H1 : Hp} {j : Int} (b1 : -(2 ^ 62) ≤ j) (b2 : j < 2 ^ 62) (h : Loop j.toNat (fun i => .int (i : Nat)) g tb D σ H1) :
    ∃ k : Int, [V.int j] = [V.int k] ∧ -(2 ^ 62) ≤ k ∧ k < 2 ^ 62 ∧ ∃ W : Nat → Nat → L2.St → Hp → Prop, (∃ m, W 0 m σ H1) ∧ ∀ i m σ H, W i m σ H →
      ((Itr 0 k.toNat).stop i H ∧ D.nx σ H) ∨ ((Itr 0 k.toNat).go i H ∧ ∃ N : L2.St → Hp → Prop, (∀ σ' H', N σ' H' → ∃ m', m' < m ∧ W (i + 1) m' σ' H') ∧ ∀ x H', (Itr 0 k.toNat).yld i H x H' → g x σ H' fun σ2 H2 => tb { D with nx := N, ct := N, bk := D.nx } σ2 H2) := by
  obtain ⟨Pv, p0, ps, pd⟩ := h
  refine ⟨j, rfl, b1, b2, for_range (lo := 0) (n := j.toNat) Pv p0 (fun i σ H hi p => ?_) pd⟩
  have q := ps i σ H hi p
  rw [Int.zero_add]
  exact q
/-- what a for over range asks, behind its argument -/
def FR1 (g : TG) (tb : TS) (D : Ends) (σ : L2.St) (vs : List V) (H1 : Hp) : Prop := ∃ j : Int, vs = [.int j] ∧ -(2 ^ 62) ≤ j ∧ j < 2 ^ 62 ∧ ∃ W : Nat → Nat → L2.St → Hp → Prop, (∃ m, W 0 m σ H1) ∧ ∀ i m σ H, W i m σ H →
  ((Itr 0 j.toNat).stop i H ∧ D.nx σ H) ∨ ((Itr 0 j.toNat).go i H ∧ ∃ N : L2.St → Hp → Prop, (∀ σ' H', N σ' H' → ∃ m', m' < m ∧ W (i + 1) m' σ' H') ∧ ∀ x H', (Itr 0 j.toNat).yld i H x H' → g x σ H' fun σ2 H2 => tb { D with nx := N, ct := N, bk := D.nx } σ2 H2)
theorem e_for1 {ta : TA} {g : TG} {tb : TS} {D : Ends} {σ : L2.St} {H : Hp} : tFor (iRng1 ta) g tb D σ H ↔ ta σ H (FR1 g tb D σ) := Iff.rfl
theorem g_FR1 {g : TG} {tb : TS} {D : Ends} {σ : L2.St} {H1 : Hp} {j : Int} (b1 : -(2 ^ 62) ≤ j) (b2 : j < 2 ^ 62) (h : Loop j.toNat (fun i => .int (i : Nat)) g tb D σ H1) : FR1 g tb D σ [.int j] H1 := L_range1 b1 b2 h
def FR2 (g : TG) (tb : TS) (D : Ends) (σ : L2.St) (vs : List V) (H1 : Hp) : Prop := ∃ i0 j : Int, vs = [.int i0, .int j] ∧ (-(2 ^ 62) ≤ i0 ∧ i0 < 2 ^ 62 ∧ -(2 ^ 62) ≤ j ∧ j < 2 ^ 62) ∧ ∃ W : Nat → Nat → L2.St → Hp → Prop, (∃ m, W 0 m σ H1) ∧ ∀ i m σ H, W i m σ H →
  ((Itr i0 (j - i0).toNat).stop i H ∧ D.nx σ H) ∨ ((Itr i0 (j - i0).toNat).go i H ∧ ∃ N : L2.St → Hp → Prop, (∀ σ' H', N σ' H' → ∃ m', m' < m ∧ W (i + 1) m' σ' H') ∧ ∀ x H', (Itr i0 (j - i0).toNat).yld i H x H' → g x σ H' fun σ2 H2 => tb { D with nx := N, ct := N, bk := D.nx } σ2 H2)
theorem e_for2 {ta : TA} {g : TG} {tb : TS} {D : Ends} {σ : L2.St} {H : Hp} : tFor (iRng2 ta) g tb D σ H ↔ ta σ H (FR2 g tb D σ) := Iff.rfl
/-- a for over a list, a tuple, a text, behind it -/
def FU (K : PySem.W.Frag) (g : TG) (tb : TS) (D : Ends) (σ : L2.St) (x : V) (H1 : Hp) : Prop := iU K (tC x) σ H1 fun J H1 => ∃ W : Nat → Nat → L2.St → Hp → Prop, (∃ m, W 0 m σ H1) ∧ ∀ i m σ H, W i m σ H →
  (J.stop i H ∧ D.nx σ H) ∨ (J.go i H ∧ ∃ N : L2.St → Hp → Prop, (∀ σ' H', N σ' H' → ∃ m', m' < m ∧ W (i + 1) m' σ' H') ∧ ∀ x H', J.yld i H x H' → g x σ H' fun σ2 H2 => tb { D with nx := N, ct := N, bk := D.nx } σ2 H2)
theorem e_forU {K : PySem.W.Frag} {tl : TE} {g : TG} {tb : TS} {D : Ends} {σ : L2.St} {H : Hp} : tFor (iU K tl) g tb D σ H ↔ tl σ H (FU K g tb D σ) := Iff.rfl
/-- over a list that stands still -/
theorem g_FL {K : PySem.W.Frag} {g : TG} {tb : TS} {D : Ends} {σ : L2.St} {H1 : Hp} {a : Addr} {xs : List V} (Pv : Nat → L2.St → Hp → Prop) (h : SqL K H1 a xs) (h0 : Pv 0 σ H1) (hl : ∀ i σ H, i ≤ xs.length → Pv i σ H → SqL K H a xs)
    (hs : ∀ i x σ H, xs[i]? = some x → Pv i σ H → g x σ H fun σ2 H2 => tb { D with nx := Pv (i + 1), ct := Pv (i + 1), bk := D.nx } σ2 H2) (hd : ∀ σ H, Pv xs.length σ H → D.nx σ H) : FU K g tb D σ (.ref a) H1 :=
  .inl ⟨a, xs, rfl, h, for_list Pv h0 hl hs hd⟩
theorem g_FT {K : PySem.W.Frag} {g : TG} {tb : TS} {D : Ends} {σ : L2.St} {H1 : Hp} {a : Addr} {xs : List V} (Pv : Nat → L2.St → Hp → Prop) (h : Tup H1 a xs) (h0 : Pv 0 σ H1) (hl : ∀ i σ H, i ≤ xs.length → Pv i σ H → Tup H a xs)
    (hs : ∀ i x σ H, xs[i]? = some x → Pv i σ H → g x σ H fun σ2 H2 => tb { D with nx := Pv (i + 1), ct := Pv (i + 1), bk := D.nx } σ2 H2) (hd : ∀ σ H, Pv xs.length σ H → D.nx σ H) : FU K g tb D σ (.ref a) H1 :=
  .inr (.inl ⟨a, xs, rfl, h.sq, for_tup Pv h0 (fun i σ H l p => (hl i σ H l p).sq) hs hd⟩)
/-- the script: locked, or an object of the module -/
def Scr (K : PySem.W.Frag) (H : Hp) (a : Addr) (xs : List V) : Prop :=
  (∃ o, H a = some (.frz o (.lst xs))) ∨ ∃ (o : Obj) (its : Array Value) (n : Nat), K.lookup a = some o ∧ o.cls = .type "list" ∧ o.dict = none ∧ o.data = .seq its n ∧ its.size ≤ sizeLine ∧ Vals xs its.toList
theorem Scr.sq {K : PySem.W.Frag} {H : Hp} {a : Addr} {xs : List V} (h : Scr K H a xs) : SqL K H a xs := h.elim (fun h => .inl (.inr h)) .inr
theorem Scr.keep {K : PySem.W.Frag} {S : List Addr} {H H' : Hp} {a : Addr} {xs : List V} (h : Scr K H a xs) (k : Keep S H H') (n : ∀ o, H a = some o → a ∉ S) : Scr K H' a xs :=
  h.elim (fun ⟨o, e⟩ => .inl ⟨o, k _ _ (n _ e) e⟩) .inr
theorem Scr.keep0 {K : PySem.W.Frag} {H H' : Hp} {a : Addr} {xs : List V} (h : Scr K H a xs) (k : Keep [] H H') : Scr K H' a xs := h.keep k fun _ _ => nin0
/-- a new object comes and is changed -/
theorem Scr.past {K : PySem.W.Frag} {H H1 H2 : Hp} {a p : Addr} {xs : List V} (h : Scr K H a xs) (n : H p = none) (k1 : Keep [] H H1) (k2 : Keep [p] H1 H2) : Scr K H2 a xs :=
  h.elim (fun ⟨o, e⟩ => .inl ⟨o, k2 _ _ (nin1 (ne_of_none e n)) (k1 _ _ nin0 e)⟩) .inr
theorem Scr.of {K : PySem.W.Frag} {H : Hp} {a : Addr} {xs : List V} (o : Only H) (h : SqL K H a xs) : Scr K H a xs := by
  rcases h with (h | h) | h
  · rcases o a with z | ⟨ob, ys, z⟩
    · exact nomatch z.symm.trans h
    · exact nomatch z.symm.trans h
  · exact .inl h
  · exact .inr h
theorem e_ten6 : (10 : Int) ^ (6 : Int).toNat = 1000000 := by decide
theorem e_ten18 : (10 : Int) ^ (18 : Int).toNat = 1000000000000000000 := by decide
theorem e_ten60 : (10 : Int) ^ (60 : Int).toNat = 10 ^ 60 := rfl
theorem len1 {α : Type} {a : α} : [a].length ≤ sizeLine := by show 1 ≤ sizeLine; decide
theorem len_le {n : Nat} (h : n ≤ 1000000) : n ≤ sizeLine := by
  rw [sizeLine_eq]
  omega
theorem len_lt {n : Nat} (h : n ≤ 1000000) : n < sizeLine := by
  rw [sizeLine_eq]
  omega
end Wg

/-! Wagon, part 8: comprehensions, places of texts in tuples, join, split. -/
namespace Wg
open PySem PySem.Spec PyProof.Rows L2

theorem Keep.past {S : List Addr} {H H1 H2 : Hp} {d : Addr} (k1 : Keep S H H1) (k2 : Keep [d] H1 H2) (n : H d = none) : Keep S H H2 := fun b o hb e =>
  k2 b o (nin1 (ne_of_none e n)) (k1 b o hb e)

/-! ### comprehensions -/
/-- n turns: acc is what is made so far, D the new list; R: what is wanted of an element, R0: of a turn without one -/
def CLoop (S : List Addr) (n : Nat) (it : Nat → V) (g : TG) (tt : TT) (te : TE) (vs : List Nat) (σ : L2.St) (H1 : Hp) (Q : VK) : Prop :=
  ∃ P : Nat → Hp → List V → Prop, (∀ D H2, H1 D = none → Keep [] H1 H2 → P 0 H2 []) ∧
    (∀ D i H acc (R : VK) (R0 : Hp → Prop), H1 D = none → i < n → Keep S H1 H → H D = some (.lst acc) → P i H acc →
      (∀ y H4, Keep S H H4 → acc.length < sizeLine → (∀ H5, Keep [D] H4 H5 → P (i + 1) H5 (acc ++ [y])) → R y H4) → (∀ H3, Keep S H H3 → P (i + 1) H3 acc → R0 H3) →
      g (it i) (wipe σ vs) H fun σ2 H2 => wipe σ2 vs = wipe σ vs ∧ tt σ2 H2 fun b H3 => if b = true then te σ2 H3 R else R0 H3) ∧
    ∀ D H acc, H1 D = none → Keep S H1 H → H D = some (.lst acc) → P n H acc → Q (.ref D) H
/-- what a comprehension asks behind its source's value -/
def CB (J : It) (g : TG) (tt : TT) (te : TE) (vs : List Nat) (σ : L2.St) (Q : VK) (H1 : Hp) : Prop := ∀ D, H1 D = none → ∃ W : Nat → Nat → Hp → Prop, (∃ m, W 0 m (upd H1 D (.lst []))) ∧ ∀ i m H, W i m H →
  (J.stop i H ∧ Q (.ref D) H) ∨ (J.go i H ∧ ∃ Nx : Hp → Prop, (∀ H', Nx H' → ∃ m', m' < m ∧ W (i + 1) m' H') ∧ ∀ x H', J.yld i H x H' → g x (wipe σ vs) H' fun σ2 H2 => wipe σ2 vs = wipe σ vs ∧ tt σ2 H2 fun b H3 =>
    if b = true then te σ2 H3 fun y H4 => ∃ acc, H4 D = some (.lst acc) ∧ acc.length < sizeLine ∧ Nx (upd H4 D (.lst (acc ++ [y]))) else Nx H3)
def CU (K : PySem.W.Frag) (g : TG) (tt : TT) (te : TE) (vs : List Nat) (σ : L2.St) (Q : VK) (x : V) (H1 : Hp) : Prop := iU K (tC x) σ H1 fun J H1 => CB J g tt te vs σ Q H1
theorem e_lcU {K : PySem.W.Frag} {tl : TE} {g : TG} {tt : TT} {te : TE} {vs : List Nat} {σ : L2.St} {H : Hp} {Q : VK} : tLc (iU K tl) g tt te vs σ H Q ↔ tl σ H (CU K g tt te vs σ Q) := Iff.rfl
def CR1 (g : TG) (tt : TT) (te : TE) (vs : List Nat) (σ : L2.St) (Q : VK) (xs : List V) (H1 : Hp) : Prop := ∃ j : Int, xs = [.int j] ∧ -(2 ^ 62) ≤ j ∧ j < 2 ^ 62 ∧ CB (Itr 0 j.toNat) g tt te vs σ Q H1
theorem e_lcR1 {ta : TA} {g : TG} {tt : TT} {te : TE} {vs : List Nat} {σ : L2.St} {H : Hp} {Q : VK} : tLc (iRng1 ta) g tt te vs σ H Q ↔ ta σ H (CR1 g tt te vs σ Q) := Iff.rfl
/-- from CLoop: J yields it i at turn i and stops at n, as long as what was there ahead is kept -/
theorem cb_of {S : List Addr} {n : Nat} {it : Nat → V} {J : It} {g : TG} {tt : TT} {te : TE} {vs : List Nat} {σ : L2.St} {H1 : Hp} {Q : VK} (hS : ∀ b ∈ S, ∃ o, H1 b = some o)
    (hgo : ∀ i H, i < n → Keep S H1 H → J.go i H) (hy : ∀ i H x H', i < n → Keep S H1 H → J.yld i H x H' → x = it i ∧ H' = H) (hst : ∀ H, Keep S H1 H → J.stop n H)
    (h : CLoop S n it g tt te vs σ H1 Q) : CB J g tt te vs σ Q H1 := by
  intro D hD
  obtain ⟨P, p0, ps, pd⟩ := h
  have nD : D ∉ S := fun z => by
    obtain ⟨o, e⟩ := hS D z
    exact nomatch hD.symm.trans e
  refine ⟨fun i m H => m = n - i ∧ i ≤ n ∧ Keep S H1 H ∧ ∃ acc, H D = some (.lst acc) ∧ P i H acc, ⟨n, by omega, by omega, (Keep.new hD).all, [], upd_same, p0 D _ hD (Keep.new hD)⟩, ?_⟩
  rintro i m H ⟨rfl, hi, k, acc, eD, p⟩
  by_cases hlt : i < n
  · refine .inr ⟨hgo i H hlt k, fun H' => i + 1 ≤ n ∧ Keep S H1 H' ∧ ∃ acc, H' D = some (.lst acc) ∧ P (i + 1) H' acc, fun H' q => ⟨n - (i + 1), by omega, rfl, q⟩, fun x H' y => ?_⟩
    obtain ⟨ex, eh⟩ := hy i H x H' hlt k y
    rw [ex, eh]
    exact ps D i H acc _ _ hD hlt k eD p (fun y H4 k4 z q => ⟨acc, k4 _ _ nD eD, z, hlt, (k.trans k4).past Keep.set hD, _, upd_same, q _ Keep.set⟩) fun H3 k3 q => ⟨hlt, k.trans k3, acc, k3 _ _ nD eD, q⟩
  · have e : i = n := by omega
    subst e
    exact .inl ⟨hst H k, pd D H acc hD k eD p⟩
theorem g_CR1 {S : List Addr} {g : TG} {tt : TT} {te : TE} {vs : List Nat} {σ : L2.St} {H1 : Hp} {Q : VK} {j : Int} (hS : ∀ b ∈ S, ∃ o, H1 b = some o) (b1 : -(2 ^ 62) ≤ j) (b2 : j < 2 ^ 62)
    (h : CLoop S j.toNat (fun i => .int (i : Nat)) g tt te vs σ H1 Q) : CR1 g tt te vs σ Q [.int j] H1 := by
  refine ⟨j, rfl, b1, b2, cb_of hS (fun i H hi _ => hi) (fun i H x H' hi _ y => ?_) (fun H _ => Nat.le_refl _) h⟩
  obtain ⟨e1, e2⟩ := y
  exact ⟨by rw [e2, Int.zero_add], e1⟩
theorem g_CL {S : List Addr} {K : PySem.W.Frag} {g : TG} {tt : TT} {te : TE} {vs : List Nat} {σ : L2.St} {H1 : Hp} {Q : VK} {a : Addr} {xs : List V} (hS : ∀ b ∈ S, ∃ o, H1 b = some o) (hx : H1 a = some (.lst xs)) (na : a ∉ S)
    (h : CLoop S xs.length (fun i => xs.getD i .non) g tt te vs σ H1 Q) : CU K g tt te vs σ Q (.ref a) H1 := by
  refine .inl ⟨a, xs, rfl, lst_sq hx, cb_of hS (fun i H hi k => ⟨xs, xs[i], lst_sq (k _ _ na hx), List.getElem?_eq_getElem hi⟩) (fun i H x H' hi k y => ?_) (fun H k => ⟨xs, lst_sq (k _ _ na hx), Nat.le_refl _⟩) h⟩
  obtain ⟨e1, e2⟩ := y
  have := e2 xs (lst_sq (k _ _ na hx))
  exact ⟨by rw [List.getD_eq_getElem?_getD, this]; rfl, e1⟩
theorem g_CT {S : List Addr} {K : PySem.W.Frag} {g : TG} {tt : TT} {te : TE} {vs : List Nat} {σ : L2.St} {H1 : Hp} {Q : VK} {a : Addr} {xs : List V} (hS : ∀ b ∈ S, ∃ o, H1 b = some o) (hx : Tup H1 a xs) (na : a ∉ S)
    (h : CLoop S xs.length (fun i => xs.getD i .non) g tt te vs σ H1 Q) : CU K g tt te vs σ Q (.ref a) H1 := by
  refine .inr (.inl ⟨a, xs, rfl, hx.sq, cb_of hS (fun i H hi k => ⟨xs, xs[i], (hx.keep k na).sq, List.getElem?_eq_getElem hi⟩) (fun i H x H' hi k y => ?_) (fun H k => ⟨xs, (hx.keep k na).sq, Nat.le_refl _⟩) h⟩)
  obtain ⟨e1, e2⟩ := y
  have := e2 xs (hx.keep k na).sq
  exact ⟨by rw [List.getD_eq_getElem?_getD, this]; rfl, e1⟩
theorem g_CS {S : List Addr} {K : PySem.W.Frag} {g : TG} {tt : TT} {te : TE} {vs : List Nat} {σ : L2.St} {H1 : Hp} {Q : VK} {z : Str} (hS : ∀ b ∈ S, ∃ o, H1 b = some o)
    (h : CLoop S z.cps.size (fun i => .str ⟨#[z.cps.getD i 0]⟩) g tt te vs σ H1 Q) : CU K g tt te vs σ Q (.str z) H1 := by
  refine .inr (.inr ⟨z, rfl, cb_of hS (fun i H hi k => hi) (fun i H x H' hi k y => ?_) (fun H k => Nat.le_refl _) h⟩)
  obtain ⟨e1, c, e2, e3⟩ := y
  refine ⟨?_, e1⟩
  rw [e3, Array.getD_eq_getD_getElem?, e2]
  rfl

/-! ### a text's place in a tuple of texts -/
section
variable {X : Cx} {o e : Expr} {to te : TE} {apos cpos : Pos}
def tIdx (K : PySem.W.Frag) (to : TE) (t : TA) : TE := fun σ H Q => to σ H fun x H1 => ∃ (a : Addr) (ys : List Str), x = .ref a ∧ Tup H1 a (ys.map V.str) ∧ t σ H1 fun vs H2 =>
  ∃ (z : Str) (j : Nat), vs = [.str z] ∧ Tup H2 a (ys.map V.str) ∧ ys[j]? = some z ∧ (∀ m, m < j → ys[m]? ≠ some z) ∧ Q (.int (j : Nat)) H2
theorem pe_idx {t : TA} (ho : PE X o to) (ha : PA X [e] t) (hbase : attributeBase o "index" X.env (eval o X.env) = eval o X.env := by rfl)
    (hfew : ((backTo cpos (starEach [e] X.env)).all (fun x => !x.1) && (backToKw cpos (keywordEach [] X.env)).all (fun x => x.1.isSome)
      && decide (([e] : List Expr).length + ([] : List Keyword).length + (if ([] : List Keyword).isEmpty then 0 else 1) < 30)) = true := by rfl)
    (hline : (apos.endLine == cpos.line) = true := by rfl) (hs : starEach [e] X.env = (false, eval e X.env) :: starEach [] X.env := by rfl) (hplain : (backTo cpos (starEach [] X.env)).any (·.1) = false := by rfl) :
    PE X (.Call (.Attribute o "index" apos) [e] [] cpos) (tIdx X.K to t) := by
  constructor
  intro pins s σ H Q I h
  have run := ho.run pins s σ H _ I h
  refine wpAny_Call_method_late hbase hfew hline rfl (thn run fun v s1 w => ?_)
  obtain ⟨x, H1, I1, r1, a, ys, rfl, tu, q1⟩ := w
  cases r1
  obtain ⟨its, n, rv, z, hob⟩ := tu.obj I1
  refine ⟨"tuple", "tuple.index", PySem.F.plainAttrs_tuple, PySem.F.slot_tuple_index, PySem.F.type_tuple_index, ⟨_, hob, rfl⟩, fun b e => ?_, ?_⟩
  · cases e
    exact ⟨_, hob, rfl⟩
  have args := ha.run cpos pins s1 σ H1 _ I1 q1
  rw [hs] at args ⊢
  refine Calls.callWith_builtin (by show (false || (backTo cpos (starEach [] X.env)).any (·.1)) = false; rw [hplain] <;> rfl) (Calls.evalArgs_plain ?_)
  refine thn args fun us s2 y => ?_
  obtain ⟨vs, H2, I2, r2, zz, j, rfl, t2, ej, em, q2⟩ := y
  exact mt_tup_index pins s2 σ H2 (.ref a) [.str zz] (.ref a) us Q I2 rfl r2 ⟨a, ys, zz, j, rfl, rfl, t2.sq, ej, em, q2⟩
end

/-! ### texts -/
section
variable {X : Cx} {o e : Expr} {to te : TE} {apos pos : Pos}
def uJoin (K : PySem.W.Frag) : V → List V → Hp → VK → Prop := fun x xs H Q => ∃ a p, ∃ ys : List Str, x = .str a ∧ xs = [.ref p] ∧ (SqL K H p (ys.map V.str) ∨ SqT K H p (ys.map V.str)) ∧ (ys.map (·.length)).sum + ys.length * a.length ≤ 16777216 ∧ Q (.str (Txt.join a ys)) H
theorem pe_uJoin (ho : PE X o to) (he : PE X e te) (hs : starEach [e] X.env = [(false, eval e X.env)] := by rfl) (hbase : attributeBase o "join" X.env (eval o X.env) = eval o X.env := by rfl) (hline : (apos.endLine == pos.line) = true := by rfl) :
    PE X (.Call (.Attribute o "join" apos) [e] [] pos) (tM1 (uJoin X.K) to te) := pe_join ho he hs hbase hline
def uSplit : V → List V → Hp → VK → Prop := fun x xs H Q => ∃ a b, x = .str a ∧ xs = [.str b] ∧ (b.length == 0) = false ∧ a.length + 2 ≤ sizeLine ∧ Mk H (.lst ((Txt.split a b).map V.str)) Q
theorem mt_uSplit : MtR X "str.split" uSplit := by
  intro pins s σ H x xs v us Q I rx rs h
  obtain ⟨a, b, e1, e2, h1, h2, q⟩ := h
  exact mt_split pins s σ H x xs v us Q I rx rs ⟨a, b, e1, e2, h1, h2, fun p n => q.at p n⟩
theorem pe_uSplit (ho : PE X o to) (he : PE X e te) (hs : starEach [e] X.env = [(false, eval e X.env)] := by rfl) (hbase : attributeBase o "split" X.env (eval o X.env) = eval o X.env := by rfl) (hline : (apos.endLine == pos.line) = true := by rfl) :
    PE X (.Call (.Attribute o "split" apos) [e] [] pos) (tM1 uSplit to te) := pe_m1 PySem.F.slot_str_split PySem.F.type_str_split mt_uSplit ho he hs hbase hline
end
end Wg

/-! Wagon, part 9: list(reversed(list)). -/
namespace Wg
open PySem PySem.Spec PyProof.Rows L2
section
variable {prog : Program} {w : World} {A : Around} {E : Value → Shared → Prop} {s : Shared}
/-- what a new list takes out of a list walked from behind -/
theorem takes_back {it l S : Addr} {items : Array Value} {R : Result → Shared → Prop} (hh : A.handled = none) (hit : s.heap.IsRevIter it l ((items.size : Int) - 1)) (hl : s.heap.IsList l items) (hne : l ≠ it) (hn : items.size ≤ sizeLine)
    (hSi : S ≠ it) (hSl : S ≠ l) (hS : s.heap.get? S = some { cls := .type "list", data := .seq #[] })
    (hR : ∀ (h' : Heap) (tk : Nat) (acc : Array Value) (c' : Nat), (∀ b o, b ≠ S → b ≠ it → s.heap.get? b = some o → h'.get? b = some o) → h'.get? S = some { cls := .type "list", dict := none, data := .seq acc c', slots := #[] } →
      ItemsOf (fun i v => items[items.size - 1 - i]? = some v) acc items.size → R (.ok (.ret .none)) { s with heap := h', toks := tk }) :
    wpAny (model prog w) A.in1 (Builtin.«list.__init__» ⟨[.ref S, .ref it], []⟩)
      (fun fin s' => match fin with | .done f => R (.ok f) s' | .again c' => c'.quiet = true ∧ codeAny (model prog w) A c' R s') (fun e s' => R (.error e) s') s := by
  have W := (Walks.listRev (prog := prog) (w := w) (A := A.in1) hh it l hne items).toS
  have hSf : S ∉ [it, l] := by simp only [List.mem_cons, List.not_mem_nil, or_false, not_or]; exact ⟨hSi, hSl⟩
  show wpAny _ A.in1 (do let old ← Builtin.List.listItems (.ref S); Builtin.List.listUpdate (.ref S) (fun _ => #[]); letGo old.toList.reverse; Builtin.List.listExtendWith (.ref S) (.ref it) .none) _ _ s
  refine wpAny_bind ?_
  unfold Builtin.List.listItems
  refine wpAny_bind (wpAny_seqItems hS rfl (wpAny_pure ?_))
  show wpAny _ A.in1 (updateSeq S (fun _ => #[]) >>= fun _ => letGo (#[] : Array Value).toList.reverse >>= fun _ => Builtin.List.listExtendWith (.ref S) (.ref it) .none) _ _ s
  refine wpAny_bind (wpAny_updateSeq hS rfl ?_)
  have hS₂ := Heap.get?_update_self (Obj.mapSeq (fun _ => (#[] : Array Value))) hS rfl
  have oth₂ : ∀ b o, b ≠ S → s.heap.get? b = some o → (s.heap.update S (Obj.mapSeq (fun _ => (#[] : Array Value)))).get? b = some o := fun b o hb e => (Heap.get?_update_other _ _ (Ne.symm hb)).trans e
  refine wpAny_bind (wpAny_letGo ?_)
  have hit2 := hit.at (h' := s.heap.update S (Obj.mapSeq (fun _ => (#[] : Array Value)))) fun o e => oth₂ it o (Ne.symm hSi) e
  have hl2 : (s.heap.update S (Obj.mapSeq (fun _ => (#[] : Array Value)))).IsList l items := hl.at fun o e => oth₂ l o (Ne.symm hSl) e
  have hT : ({ s with heap := s.heap.update S (Obj.mapSeq (fun _ => (#[] : Array Value))) } : Shared).TypeIs (.ref it) "list_reverseiterator" := Heap.IsRevIter.typeIs (s := { s with heap := s.heap.update S (Obj.mapSeq (fun _ => (#[] : Array Value))) }) hit2
  have h1 : Builtin.List.listSameRef (.ref S) (.ref it) = false := by simp [Builtin.List.listSameRef, hSi]
  unfold Builtin.List.listExtendWith
  refine wpAny_bind (wpAny_typeOf hT ?_)
  rw [if_neg (by rw [h1]; decide)]
  refine wpAny_bind (wpAny_pyIter_revIter (s := { s with heap := s.heap.update S (Obj.mapSeq (fun _ => (#[] : Array Value))) }) hit2 ?_)
  refine wpAny_bind (wpAny_holding ?_)
  unfold Builtin.List.listLengthHint
  refine wpAny_bind (wpAny_specialOf hT RT.nolen_lri ?_)
  show wpAny _ A.in1 (specialOf (Value.ref it) (Str.ofString "__length_hint__") >>= _) _ _ _
  refine wpAny_bind (wpAny_specialOf hT RT.hint_lri ?_)
  generalize hid : ("list_reverseiterator.__length_hint__" : String) = id0
  wp_delta
  rw [show splitId id0 = some ("list_reverseiterator", "__length_hint__") from by subst hid; decide +kernel]
  subst hid
  refine wpAny_bind (wpAny_isInstance (b := true) hT (by rw [isSubtype_type]; kernel_rfl) ?_)
  refine wpAny_pure ?_
  rw [if_neg (by decide)]
  have e0 : ((items.size : Nat) : Int) - 1 - ((0 : Nat) : Int) = (items.size : Int) - 1 := by omega
  refine wpAny_pure ⟨plainId_quiet F.plain_extend_loop _, codeAny_extend_loopS W hn _ hSf _ items.size 0 _ _ _ rfl (Nat.zero_le _) ⟨Nat.zero_le _, by rw [e0]; exact hit2, hl2⟩ hS₂ (ItemsOf.nil _) fun s' acc' c' hm hS' hacc => ?_⟩
  rw [Moved.eq_with hm]
  refine hR s'.heap s'.toks acc' c' (fun b o h1 h2 e => hm.heap b o (fun hmem => ?_) (oth₂ b o h1 e)) hS' hacc
  rcases List.mem_cons.mp hmem with e' | hmem
  · exact h1 e'
  · exact h2 (List.mem_singleton.mp hmem)
theorem call_list_back {it l : Addr} {items : Array Value} {Q : Value → Shared → Prop} (hh : A.handled = none) (hit : s.heap.IsRevIter it l ((items.size : Int) - 1)) (hl : s.heap.IsList l items) (hne : l ≠ it) (hn : items.size ≤ sizeLine)
    (hQ : ∀ (h' : Heap) (tk : Nat) (acc : Array Value) (c' : Nat), (∀ b o, b ≠ it → s.heap.get? b = some o → h'.get? b = some o) → h'.get? s.heap.objs.size = some { cls := .type "list", dict := none, data := .seq acc c', slots := #[] } →
      ItemsOf (fun i v => items[items.size - 1 - i]? = some v) acc items.size → Q (.ref s.heap.objs.size) { s with heap := h', toks := tk }) :
    wpAny (model prog w) A (call (.type "list") [.ref it]) Q E s := by
  obtain ⟨oi, hoi, _⟩ := id hit
  obtain ⟨ol, hol, _⟩ := id hl
  have hSi : s.heap.objs.size ≠ it := Nat.ne_of_gt (Heap.lt_size hoi)
  have hSl : s.heap.objs.size ≠ l := Nat.ne_of_gt (Heap.lt_size hol)
  refine callType_codes (Q₁ := fun obj s₁ => obj = .ref s.heap.objs.size ∧ s₁ = { s with heap := s.heap.push { cls := .type "list", data := .seq #[] } }) F.called_list (F.typeCall_list_1 _) F.entry_list_init
    (code_list_new _ ⟨rfl, rfl⟩) fun obj s₁ h₁ => ?_
  obtain ⟨rfl, rfl⟩ := h₁
  have hS : (s.heap.push { cls := .type "list", data := .seq #[] }).get? s.heap.objs.size = some { cls := .type "list", data := .seq #[] } := Heap.get?_push_size _ rfl
  refine ⟨⟨_, hS, rfl⟩, F.args_list_init_2 _ _, takes_back (s := { s with heap := s.heap.push { cls := .type "list", data := .seq #[] } }) (A := A.in1) hh (hit.at fun o e => Heap.get?_push_of_some _ e) (hl.push _) hne hn hSi hSl hS fun h' tk acc c' hk hS' hacc => ?_⟩
  refine ⟨rfl, hQ h' tk acc c' (fun b o hb e => hk b o (fun e' => absurd (Heap.lt_size e) (by rw [e']; exact Nat.lt_irrefl _)) hb (Heap.get?_push_of_some _ e)) hS' hacc⟩
end
def uLRev (K : PySem.W.Frag) (te : TE) : TE := fun σ H Q => te σ H fun x H1 => ∃ p ys, x = .ref p ∧ SqL K H1 p ys ∧ Mk H1 (.lst ys.reverse) Q
section
variable {X : Cx}
theorem pe_uLRev {e : Expr} {te : TE} {p p2 pos pos2 : Pos} (hc : X.calm = true) (hg : Gl X "list") (hm : X.mg "list" = none) (hg2 : Gl X "reversed") (hm2 : X.mg "reversed" = none) (he : PE X e te)
    (hs : starEach [e] X.env = (false, eval e X.env) :: starEach [] X.env := by rfl)
    (hs2 : starEach [.Call (.Name "reversed" p2) [e] [] pos2] X.env = (false, eval (.Call (.Name "reversed" p2) [e] [] pos2) X.env) :: starEach [] X.env := by rfl) :
    PE X (.Call (.Name "list" p) [.Call (.Name "reversed" p2) [e] [] pos2] [] pos) (uLRev X.K te) := by
  refine ⟨fun pins s σ H Q I h => ?_⟩
  refine Call_ (ld_blt I hg hm boot_list (PyProof.Rows.callWith_type1 (args_cons (Call_ (ld_blt I hg2 hm2 PyProof.Rows.boot_reversed (PyProof.Rows.callWith_type1 (args_cons (thn (he.run pins s σ H _ I h) fun u s1 ⟨v, H1, I1, r1, q1⟩ => args_nil ?_) hs) hs rfl))) hs2) hs2 rfl))
  obtain ⟨a, xs, ev, hq, q⟩ := q1
  subst ev
  obtain rfl : u = Value.ref a := r1
  obtain ⟨its, rv, p', hz⟩ := I1.list hq
  refine call_reversed_list p'.isList (args_nil ?_)
  have hl := p'.isList
  obtain ⟨ol, hol, _⟩ := id hl
  have hne : a ≠ s1.heap.objs.size := Nat.ne_of_lt (Heap.lt_size hol)
  have hn : its.toArray.size ≤ sizeLine := by rw [List.size_toArray, ← rv.length]; exact hz
  have hsz : (s1.heap.push (revObj a ((its.toArray.size : Int) - 1))).objs.size = s1.heap.objs.size + 1 := by simp [Heap.push]
  refine call_list_back (s := { s1 with heap := s1.heap.push (revObj a ((its.toArray.size : Int) - 1)) }) (I1.ok.hd hc) ⟨_, Heap.get?_push_size _ rfl, rfl, rfl⟩ (hl.push _) hne hn fun h' tk acc c' hk hS hi => ?_
  have k0 : ∀ b o, s1.heap.get? b = some o → h'.get? b = some o := fun b o e => hk b o (Nat.ne_of_lt (Heap.lt_size e)) (Heap.get?_push_of_some _ e)
  have le : s1.heap.objs.size ≤ (s1.heap.push (revObj a ((its.toArray.size : Int) - 1))).objs.size := by rw [hsz]; exact Nat.le_succ _
  refine ⟨.ref _, upd H1 _ (.lst xs.reverse), I1.laid (t' := tk) k0 le (show ObjOk X.prog X.w _ h' _ (.lst xs.reverse) from ⟨by rw [List.length_reverse]; exact hz, acc.toList, c', RT.vals_rev rv hi, ?_⟩), rfl, q.at _ (I1.hok.fresh le)⟩
  rw [Array.toArray_toList]
  exact hS
end
theorem g_lrev {K : PySem.W.Frag} {p : Addr} {ys : List V} {H : Hp} {Q : VK} (h : SqL K H p ys) (q : ∀ l H', H l = none → Keep [] H H' → H' l = some (.lst ys.reverse) → Q (.ref l) H') : ∃ p' ys', V.ref p = .ref p' ∧ SqL K H p' ys' ∧ Mk H (.lst ys'.reverse) Q := ⟨p, ys, rfl, h, q⟩
end Wg

/-! Wagon, part 10: {i: j}. -/
namespace Wg
open PySem PySem.Spec PyProof.Rows L2
section
variable {X : Cx} {pos : Pos}
def tDicI (i j : Int) : TE := fun _ H Q => Mk H (.dK [(.inl i, .int j)]) Q
theorem pe_dicI {k v : Expr} {i j : Int} (hk : PE X k (tC (.int i))) (hv : PE X v (tC (.int j))) : PE X (.Dict [some k] [v] pos) (tDicI i j) := by
  constructor
  intro pins s σ H Q I q
  refine (pe_disp (pps_cons hk hv pps_nil) rfl rfl (by simp) (by simp)).run pins s σ H Q I fun p n => ?_
  refine ⟨upd_same, [(.inl i, .int j)], rfl, by simp, ?_⟩
  rw [upd_upd]
  exact q.at p n
end
end Wg

/-! Wagon, part 11: enumerate(tuple), min of a list. -/
namespace Wg
open PySem PySem.Spec PyProof.Rows L2
theorem en_new (l : Addr) (items : Array Value) (n : Nat) (dct : Option Addr) (sl : Array (Option Value)) :
    Meets (Builtin.«enumerate.__new__» ⟨[.type "enumerate", .ref l], []⟩) (fun _ R s => s.heap.get? l = some { cls := .type "tuple", dict := dct, data := .seq items n, slots := sl } ∧
      R (.ok (.ret (.ref (s.heap.push { cls := .type "tuple_iterator", data := .fields #[.ref l, .int 0 0] }).objs.size)))
        { s with heap := (s.heap.push { cls := .type "tuple_iterator", data := .fields #[.ref l, .int 0 0] }).push { cls := .type "enumerate", data := .fields #[.none, .bool false, .ref s.heap.objs.size, rawInt 0, .none, .none] } }) :=
  .of_wp fun prog w A R s h => by
    obtain ⟨hp, g, d, tk, os⟩ := s
    obtain ⟨hl, h⟩ := h
    have hsub := sub_enumerate
    have hL : Heap.IsTuple (Shared.heap ⟨hp, g, d, tk, os⟩) l items := ⟨_, hl, rfl, n, rfl⟩
    wp_walk using AutoSeq1.wpAny_loadPart' hl
    refine wpAny_stack_any fun st => wpAny_pure ?_
    split
    · rename_i c _ _ _ _ _
      cases (c == Value.type "enumerate")
      · wp_walk using AutoSeq1.wpAny_loadPart' hl, wpAny_pyIter_tuple hL
        exact ⟨_, rfl, h⟩
      · wp_walk using AutoSeq1.wpAny_loadPart' hl, wpAny_pyIter_tuple hL
        exact ⟨_, rfl, h⟩
    · wp_walk using AutoSeq1.wpAny_loadPart' hl, wpAny_pyIter_tuple hL
      exact ⟨_, rfl, h⟩
section
variable {prog : Program} {w : World} {A : Around} {E : Value → Shared → Prop} {s : Shared}
theorem call_en {l : Addr} {items : Array Value} {Q : Value → Shared → Prop} (hL : s.heap.IsTuple l items)
    (h : ∀ h', IsEnum h' (s.heap.objs.size + 1) s.heap.objs.size 0 .none → h'.IsTupleIter s.heap.objs.size l 0 → h'.objs.size = s.heap.objs.size + 2 →
      (∀ b o, s.heap.get? b = some o → h'.get? b = some o) → Q (.ref (s.heap.objs.size + 1)) { s with heap := h' }) :
    wpAny (model prog w) A (call (.type "enumerate") [.ref l]) Q E s := by
  obtain ⟨⟨c, dct, dt, sl⟩, hl, hc, n, hd⟩ := hL
  replace hc : c = .type "tuple" := hc
  replace hd : dt = .seq items n := hd
  subst hc hd
  refine callType_new F.called_enumerate (by decide) (F.typeCall_enumerate_1 _) (F.newCall_enumerate_1 _) (fun obj => F.args_object_init_2 obj _) F.entry_enumerate_new
    (en_new l items n dct sl) ⟨hl, ?_⟩
  have hz : (s.heap.push { cls := .type "tuple_iterator", data := .fields #[.ref l, .int 0 0] }).objs.size = s.heap.objs.size + 1 := Heap.size_push ..
  show _ ∧ _
  rw [hz]
  have he : IsEnum ((s.heap.push { cls := .type "tuple_iterator", data := .fields #[.ref l, .int 0 0] }).push
      { cls := .type "enumerate", data := .fields #[.none, .bool false, .ref s.heap.objs.size, rawInt 0, .none, .none] }) (s.heap.objs.size + 1) s.heap.objs.size 0 .none := by
    have := Heap.get?_push_size (s.heap.push { cls := .type "tuple_iterator", data := .fields #[.ref l, .int 0 0] })
      (o := { cls := .type "enumerate", data := .fields #[.none, .bool false, .ref s.heap.objs.size, rawInt 0, .none, .none] }) rfl
    rw [hz] at this
    exact this
  exact ⟨⟨_, he, rfl⟩, h _ he ⟨_, Heap.get?_push_of_some _ (Heap.get?_push_size _ rfl), rfl, rfl⟩ (by rw [Heap.size_push, hz]) fun b o x => Heap.get?_push_of_some _ (Heap.get?_push_of_some _ x)⟩
end
/-- a tuple's items in new pairs -/
def Itn (a : Addr) (xs : List V) : It :=
  ⟨fun i H => i < xs.length ∧ Tup H a xs, fun i H v H' => ∃ T x, v = .ref T ∧ H T = none ∧ H' = upd H T (.tup [.int (i : Nat), x]) ∧ xs[i]? = some x, fun i H => i = xs.length ∧ Tup H a xs⟩
theorem turn_en {P : Program} {w : World} {K : PySem.W.Frag} {elts : List Expr} {kk : Nat} {tpos : Pos} (a e it : Addr) (xs : List V) :
    Turn P w K (.Tuple elts kk tpos) (Itn a xs) [e, it] e (fun i h => (∃ old, IsEnum h e it ((i : Nat) : Int) old) ∧ h.IsTupleIter it a i ∧ e ≠ it ∧ a ≠ it ∧ a ≠ e) where
  mem := by simp
  obj := fun i h st b hb => by
    obtain ⟨⟨old, he⟩, ⟨o, ho, hc, hd⟩, _⟩ := st
    have e' : b = e ∨ b = it := by simpa using hb
    rcases e' with z | z
    · rw [z]; exact ⟨_, he, fun v q => nomatch q⟩
    · rw [z]; exact ⟨o, ho, fun v q => by rw [hd] at q; cases q⟩
  keep := fun i h h' st k => let ⟨⟨old, he⟩, hi, hne⟩ := st; ⟨⟨old, k e (by simp) _ he⟩, hi.at fun o q => k it (by simp) o q, hne⟩
  item := by
    intro X hP hw hK hc i pins s σ H E I hf st hg
    subst hP hw hK
    obtain ⟨⟨old, he⟩, hit, hne, hai, hae⟩ := st
    obtain ⟨hin, tu⟩ := hg
    obtain ⟨its, rv, p, hz⟩ := I.tuple (tu.sq (K := X.K))
    have hl := rv.length
    have hel : e < s.heap.objs.size := Heap.lt_size he
    have hil : it < s.heap.objs.size := by obtain ⟨_, q, _⟩ := hit; exact Heap.lt_size q
    have D := Draws.tuple (prog := X.prog) (w := X.w) (A := X.A.in1) (I.ok.hd hc) it a hai its.toArray
    have hta : s.heap.IsTuple a its.toArray := p
    refine wpAny_pyNext_enum_itemD D he ⟨hit, hta⟩ (by simp; omega) hne (by simp [hne, Ne.symm hae]) fun x h' tk hP ho hs' hT hsz hk => ?_
    obtain ⟨hit', _⟩ := hs'
    refine ⟨_, rfl, wpAny_letOwnedTupleGo_enum (s := { s with heap := h', toks := tk + 1 }) ho fun h'' he' sb => ?_⟩
    have hT2 : h''.get? s.heap.objs.size = some { cls := .type "tuple", data := .seq #[.int i tk, x] } := (sb.2 _ (Nat.ne_of_gt hel)).trans hT
    have hxi : its[i]? = some x := by simpa using hP
    obtain ⟨u, hu, ru⟩ : ∃ u, xs[i]? = some u ∧ RelV u x := by
      obtain ⟨x', h1, h2⟩ := rv.get (List.getElem?_eq_getElem hin)
      rw [hxi] at h1
      cases h1
      exact ⟨_, List.getElem?_eq_getElem hin, h2⟩
    have new : ObjOk X.prog X.w (upd H s.heap.objs.size (.tup [.int (i : Nat), u])) h'' s.heap.objs.size (.tup [.int (i : Nat), u]) :=
      ⟨by show 2 ≤ sizeLine; decide, [.int i tk, x], .cons ⟨_, rfl⟩ (.cons ru .nil), ⟨_, hT2, rfl, _, rfl⟩⟩
    have I1 : Inv X pins σ (upd H s.heap.objs.size (.tup [.int (i : Nat), u])) { s with heap := h'', toks := tk + 1 } :=
      I.turnedNew (ch := [e, it]) (fun b ob hb q => (sb.2 b (fun z => hb (by simp [z]))).trans (hk b ob (fun z => hb (by simp [z])) (fun z => hb (by simp [z])) q)) hf (Nat.le_refl _) new
    refine ⟨.ref s.heap.objs.size, _, I1, rfl, ⟨_, u, rfl, I.hok.fresh (Nat.le_refl _), rfl, hu⟩, ⟨⟨x, ?_⟩, hit'.at fun o q => (sb.2 it (Ne.symm hne)).trans q, hne, hai, hae⟩, fun b hb => ?_⟩
    · have e1 : ((i + 1 : Nat) : Int) = (i : Int) + 1 := by omega
      rw [e1]
      exact he'
    · have hb' : b < s.heap.objs.size := by
        have e' : b = e ∨ b = it := by simpa using hb
        rcases e' with z | z
        · rw [z]; exact hel
        · rw [z]; exact hil
      rw [upd_ne (Nat.ne_of_lt hb')]
      exact (hf b hb).1
  done := by
    intro X hP hw hK hc i pins s σ H E I hf st hg
    subst hP hw hK
    obtain ⟨⟨old, he⟩, hit, hne, hai, hae⟩ := st
    obtain ⟨hin, tu⟩ := hg
    obtain ⟨its, rv, p, hz⟩ := I.tuple (tu.sq (K := X.K))
    have hl := rv.length
    have hta : s.heap.IsTuple a its.toArray := p
    obtain ⟨f0, f1, f2, f3, f4, f5⟩ := hf it (by simp)
    have D := Draws.tuple (prog := X.prog) (w := X.w) (A := X.A.in1) (I.ok.hd hc) it a hai its.toArray
    have hn : its.toArray.size = i := by simp; omega
    exact wpAny_pyNext_enum_endD D he (by rw [hn]; exact ⟨hit, hta⟩) fun h' eb => ⟨rfl, I.turned (t' := s.toks) (fun b o hb q => eb b o hb q) f0 f1 f3 f4 f5⟩
  self := fun A i s Q E st h => let ⟨⟨_, he⟩, _⟩ := st; wpAny_pyIter_enum he h
def iEnumU (K : PySem.W.Frag) (ta : TA) : TI := fun σ H R => ta σ H fun vs H1 => ∃ a xs, vs = [.ref a] ∧ Tup H1 a xs ∧ R (Itn a xs) H1
theorem pi_enumU {X : Cx} {e : Expr} {ta : TA} {p pos tpos : Pos} {elts : List Expr} {kk : Nat} (hg : Gl X "enumerate") (hm : X.mg "enumerate" = none) (ha : PA X [e] ta) (hs : starEach [e] X.env = [(false, eval e X.env)] := by rfl) :
    PI X (.Tuple elts kk tpos) (.Call (.Name "enumerate" p) [e] [] pos) (iEnumU X.K ta) := by
  refine ⟨fun pins s σ H R I h => ?_⟩
  refine Call_ (ld_blt I hg hm boot_enumerate (PyProof.Rows.callWith_type1 (thn (ha.run pos pins s σ H _ I h) fun us s1 ⟨vs, H1, I1, r1, q1⟩ => ?_) hs rfl))
  obtain ⟨a, xs, ex, tu, q⟩ := q1
  subst ex
  cases r1 with
  | cons r rr =>
    cases rr
    cases r
    obtain ⟨its, rv, p', hz⟩ := I1.tuple (tu.sq (K := X.K))
    have hta : s1.heap.IsTuple a its.toArray := p'
    have hal : a < s1.heap.objs.size := by obtain ⟨_, q, _⟩ := hta; exact Heap.lt_size q
    refine call_en hta fun h' he hit hsz hk => wpAny_pyIter_enum he ?_
    have I2 : Inv X pins σ H1 { s1 with heap := h' } := I1.kept (t' := s1.toks) hk
    refine ⟨s1.heap.objs.size + 1, [s1.heap.objs.size + 1, s1.heap.objs.size], _, _, H1, rfl, I2, turn_en a (s1.heap.objs.size + 1) s1.heap.objs.size xs, ⟨⟨.none, he⟩, hit, Nat.succ_ne_self _, Nat.ne_of_lt hal, Nat.ne_of_lt (Nat.lt_succ_of_lt hal)⟩, fun b hb => ?_, q⟩
    have e' : b = s1.heap.objs.size + 1 ∨ b = s1.heap.objs.size := by simpa using hb
    have hle : s1.heap.objs.size ≤ b := by
      rcases e' with z | z
      · rw [z]; exact Nat.le_add_right _ _
      · rw [z]; exact Nat.le_refl _
    exact I1.fpOk hle (I1.hok.fresh hle)
/-- a for over enumerate(tuple), behind its argument -/
def FE (g : TG) (tb : TS) (D : Ends) (σ : L2.St) (vs : List V) (H1 : Hp) : Prop := ∃ a xs, vs = [.ref a] ∧ Tup H1 a xs ∧ ∃ W : Nat → Nat → L2.St → Hp → Prop, (∃ m, W 0 m σ H1) ∧ ∀ i m σ H, W i m σ H →
  ((Itn a xs).stop i H ∧ D.nx σ H) ∨ ((Itn a xs).go i H ∧ ∃ N : L2.St → Hp → Prop, (∀ σ' H', N σ' H' → ∃ m', m' < m ∧ W (i + 1) m' σ' H') ∧ ∀ x H', (Itn a xs).yld i H x H' → g x σ H' fun σ2 H2 => tb { D with nx := N, ct := N, bk := D.nx } σ2 H2)
theorem e_forE {K : PySem.W.Frag} {ta : TA} {g : TG} {tb : TS} {D : Ends} {σ : L2.St} {H : Hp} : tFor (iEnumU K ta) g tb D σ H ↔ ta σ H (FE g tb D σ) := Iff.rfl
theorem g_FE {g : TG} {tb : TS} {D : Ends} {σ : L2.St} {H1 : Hp} {a : Addr} {xs : List V} (Pv : Nat → L2.St → Hp → Prop) (h : Tup H1 a xs) (h0 : Pv 0 σ H1) (hl : ∀ i σ H, i ≤ xs.length → Pv i σ H → Tup H a xs)
    (hs : ∀ i x σ H T H', xs[i]? = some x → Pv i σ H → H T = none → Keep [] H H' → H' T = some (.tup [.int (i : Nat), x]) → g (.ref T) σ H' fun σ2 H2 => tb { D with nx := Pv (i + 1), ct := Pv (i + 1), bk := D.nx } σ2 H2) (hd : ∀ σ H, Pv xs.length σ H → D.nx σ H) : FE g tb D σ [.ref a] H1 := by
  refine ⟨a, xs, rfl, h, fun i m σ H => m = xs.length - i ∧ i ≤ xs.length ∧ Pv i σ H, ⟨xs.length, by simp, Nat.zero_le _, h0⟩, ?_⟩
  rintro i m σ H ⟨rfl, hi, p⟩
  have tu := hl i σ H hi p
  by_cases hlt : i < xs.length
  · refine .inr ⟨⟨hlt, tu⟩, Pv (i + 1), fun σ' H' p' => ⟨xs.length - (i + 1), by omega, rfl, hlt, p'⟩, fun x H' y => ?_⟩
    obtain ⟨T, u, rfl, nT, rfl, hu⟩ := y
    exact hs i u σ H T _ hu p nT (Keep.new nT) upd_same
  · have e : i = xs.length := by omega
    subst e
    exact .inl ⟨⟨rfl, tu⟩, hd σ H p⟩
theorem g_pair {K : PySem.W.Frag} {p : Addr} {xs : List V} {n : Nat} {t : TGs} {σ : L2.St} {H : Hp} {Q : L2.St → Hp → Prop} (h : H p = some (.tup xs)) (l : xs.length = n) (q : t xs σ H Q) : gTup K n t (.ref p) σ H Q := ⟨p, xs, rfl, .inl (.inl h), l, q⟩
/-- l[::-1] -/
theorem g_revl {K : PySem.W.Frag} {p : Addr} {ys : List V} {H : Hp} {Q : VK} (h : SqL K H p ys) (q : ∀ l H', H l = none → Keep [] H H' → H' l = some (.lst ys.reverse) → Q (.ref l) H') : ∃ a xs, V.ref p = .ref a ∧ SqL K H a xs ∧ ∀ l, H l = none → Q (.ref l) (upd H l (.lst xs.reverse)) :=
  ⟨p, ys, rfl, h, fun l n => q l _ n (Keep.new n) upd_same⟩
/-- min(list of numbers) -/
theorem g_min {K : PySem.W.Frag} {a : Addr} {ns : List Int} {H : Hp} {Q : VK} (h : H a = some (.lst (ns.map V.int))) (l : 0 < ns.length) (q : ∀ m, m ∈ ns → (∀ y, y ∈ ns → m ≤ y) → Q (.int m) H) : rMin K [.ref a] H Q := ⟨a, ns, rfl, lst_sq h, l, q⟩
end Wg

/-! Wagon, part 12: pop, reverse, extend, zip of two tuples in a comprehension. -/
namespace Wg
open PySem PySem.Spec PyProof.Rows L2 RZ
section
variable {X : Cx}
def uPopAt : V → List V → Hp → VK → Prop := fun x vs H Q => ∃ l xs i k y, x = .ref l ∧ vs = [.int i] ∧ H l = some (.lst xs) ∧ -(2 ^ 63) ≤ i ∧ i < 2 ^ 63 ∧ seqIndex? i xs.length = some k ∧ xs[k]? = some y ∧ Ch H l (.lst (xs.eraseIdx k)) (Q y)
theorem mt_uPopAt : MtM X "list.pop" uPopAt := by
  intro pins s σ H x vs v us Q I rx rv h
  obtain ⟨l, xs, i, k, y, e1, e2, e3, e4, e5, e6, e7, q⟩ := h
  exact mt_popAt pins s σ H x vs v us Q I rx rv ⟨l, xs, i, k, y, e1, e2, e3, e4, e5, e6, e7, q.at⟩
def uReverse : V → List V → Hp → VK → Prop := fun x vs H Q => ∃ l xs, x = .ref l ∧ vs = [] ∧ H l = some (.lst xs) ∧ Ch H l (.lst xs.reverse) (Q .non)
theorem mt_uReverse : MtM X "list.reverse" uReverse := by
  intro pins s σ H x vs v us Q I rx rv h
  obtain ⟨l, xs, e1, e2, e3, q⟩ := h
  exact mt_reverse pins s σ H x vs v us Q I rx rv ⟨l, xs, e1, e2, e3, q.at⟩
def uExtend : V → List V → Hp → VK → Prop := fun x vs H Q => ∃ l b xs zs, x = .ref l ∧ vs = [.ref b] ∧ H l = some (.lst xs) ∧ H b = some (.lst zs) ∧ xs.length + zs.length ≤ sizeLine ∧ Ch H l (.lst (xs ++ zs)) (Q .non)
theorem mt_uExtend : MtM X "list.extend" uExtend := by
  intro pins s σ H x vs v us Q I rx rv h
  obtain ⟨l, b, xs, zs, e1, e2, e3, e4, e5, q⟩ := h
  exact mt_extend pins s σ H x vs v us Q I rx rv ⟨l, b, xs, zs, e1, e2, e3, e4, e5, q.at⟩
end
theorem g_popAt {l : Addr} {xs : List V} {i : Int} {k : Nat} {y : V} {H : Hp} {Q : VK} (h : H l = some (.lst xs)) (e : i = (k : Int)) (hk : k < xs.length) (hb : xs.length ≤ 1000) (hy : xs[k]? = some y) (q : ∀ H', Keep [l] H H' → H' l = some (.lst (xs.eraseIdx k)) → Q y H') : uPopAt (.ref l) [.int i] H Q := by
  refine ⟨l, xs, i, k, y, rfl, rfl, h, by omega, by omega, ?_, hy, q⟩
  subst e
  unfold seqIndex?
  have h0 : ¬ ((k : Int) < 0) := by omega
  simp only [h0, if_false]
  rw [if_pos (by simp; omega), Int.toNat_natCast]
theorem g_reverse {l : Addr} {xs : List V} {H : Hp} {Q : VK} (h : H l = some (.lst xs)) (q : ∀ H', Keep [l] H H' → H' l = some (.lst xs.reverse) → Q .non H') : uReverse (.ref l) [] H Q := ⟨l, xs, rfl, rfl, h, q⟩
/-- a comprehension over zip of two tuples, behind its arguments -/
def CZ (K : PySem.W.Frag) (g : TG) (tt : TT) (te : TE) (vs : List Nat) (σ : L2.St) (Q : VK) (xs : List V) (H1 : Hp) : Prop := ∃ a b us ws, xs = [.ref a, .ref b] ∧ ((SqL K H1 a us ∧ SqL K H1 b ws ∧ CB (Itz K a b) g tt te vs σ Q H1) ∨ (SqT K H1 a us ∧ SqT K H1 b ws ∧ CB (ItzT K a b) g tt te vs σ Q H1))
theorem e_lcZ {K : PySem.W.Frag} {ta : TA} {g : TG} {tt : TT} {te : TE} {vs : List Nat} {σ : L2.St} {H : Hp} {Q : VK} : tLc (iZipA K ta) g tt te vs σ H Q ↔ ta σ H (CZ K g tt te vs σ Q) := Iff.rfl
theorem g_CZ {K : PySem.W.Frag} {g : TG} {tt : TT} {te : TE} {vs : List Nat} {σ : L2.St} {Q : VK} {H1 : Hp} {a b : Addr} {us ws : List V} (ha : Tup H1 a us) (hb : Tup H1 b ws) (hl : us.length = ws.length) (P : Nat → Hp → List V → Prop)
    (p0 : ∀ D H2, H1 D = none → Keep [] H1 H2 → P 0 H2 [])
    (ps : ∀ D i x y H acc (R : VK) (R0 : Hp → Prop) T H', H1 D = none → us[i]? = some x → ws[i]? = some y → Keep [] H1 H' → H' D = some (.lst acc) → Keep [] H H' → P i H acc → H' T = some (.tup [x, y]) →
      (∀ z H4, Keep [] H' H4 → acc.length < sizeLine → (∀ H5, Keep [D] H4 H5 → P (i + 1) H5 (acc ++ [z])) → R z H4) → (∀ H3, Keep [] H' H3 → P (i + 1) H3 acc → R0 H3) →
      g (.ref T) (wipe σ vs) H' fun σ2 H2 => wipe σ2 vs = wipe σ vs ∧ tt σ2 H2 fun bb H3 => if bb = true then te σ2 H3 R else R0 H3)
    (pd : ∀ D H acc, H1 D = none → Keep [] H1 H → H D = some (.lst acc) → P us.length H acc → Q (.ref D) H) : CZ K g tt te vs σ Q [.ref a, .ref b] H1 := by
  refine ⟨a, b, us, ws, rfl, .inr ⟨ha.sq, hb.sq, fun D hD => ?_⟩⟩
  refine ⟨fun i m H => m = us.length - i ∧ i ≤ us.length ∧ Keep [] H1 H ∧ ∃ acc, H D = some (.lst acc) ∧ P i H acc, ⟨us.length, by omega, by omega, Keep.new hD, [], upd_same, p0 D _ hD (Keep.new hD)⟩, ?_⟩
  rintro i m H ⟨rfl, hi, k, acc, eD, p⟩
  have ta := (ha.keep k nin0).sq (K := K)
  have tb := (hb.keep k nin0).sq (K := K)
  by_cases hlt : i < us.length
  · have hx := List.getElem?_eq_getElem hlt
    have hy := List.getElem?_eq_getElem (show i < ws.length by omega)
    refine .inr ⟨⟨us, ws, _, _, ta, tb, hx, hy⟩, fun H' => i + 1 ≤ us.length ∧ Keep [] H1 H' ∧ ∃ acc, H' D = some (.lst acc) ∧ P (i + 1) H' acc, fun H' q => ⟨us.length - (i + 1), by omega, rfl, q⟩, fun v H' y => ?_⟩
    obtain ⟨T, x', y', rfl, hT, rfl, f1, f2⟩ := y
    have kn : Keep [] H (upd H T (.tup [x', y'])) := Keep.new hT
    refine ps D i x' y' H acc _ _ T _ hD (f1 us ta) (f2 ws tb) (k.trans kn) (kn _ _ nin0 eD) kn p upd_same (fun z H4 k4 hz q => ⟨acc, k4 _ _ nin0 (kn _ _ nin0 eD), hz, hlt, (k.trans (kn.trans k4)).past Keep.set hD, _, upd_same, q _ Keep.set⟩) fun H3 k3 q => ⟨hlt, k.trans (kn.trans k3), acc, k3 _ _ nin0 (kn _ _ nin0 eD), q⟩
  · have e : i = us.length := by omega
    subst e
    exact .inl ⟨⟨us, ws, ta, tb, .inl (Nat.le_refl _)⟩, pd D H acc hD k eD p⟩
/-! d[k], d[k] = v by values -/
def uDG (x y : V) (H : Hp) (Q : VK) : Prop := ∃ a v, x = .ref a ∧ DGet H a y (some v) ∧ Q v H
theorem e_dget {td ty : TE} {σ : L2.St} {H : Hp} {Q : VK} : tDGet td ty σ H Q ↔ td σ H fun x H1 => ty σ H1 fun y H2 => uDG x y H2 Q := Iff.rfl
def uDP (x y v : V) (H : Hp) (R : Hp → Prop) : Prop := ∃ a H4, x = .ref a ∧ DPut H a y v H4 ∧ R H4
theorem e_dput {td ty tv : TE} {D : Ends} {σ : L2.St} {H : Hp} : sDPut td ty tv D σ H ↔ tv σ H fun v H1 => td σ H1 fun x H2 => ty σ H2 fun y H3 => uDP x y v H3 (D.nx σ) := Iff.rfl
end Wg

/-! Wagon, part 13: sorted of alike data. -/
namespace Wg
open PySem PySem.Spec PyProof.Rows L2
theorem each_vals {α : Type} {RR : V → α → Prop} : ∀ {xs : List V} {us : List Value} {rs : List α}, Vals xs us → PySem.W.EachIs RR xs rs → PySem.W.EachIs (fun u r => ∃ x, RelV x u ∧ RR x r) us rs
  | _, _, _, .nil, .nil => .nil
  | _, _, _, .cons r q, .cons h t => .cons ⟨_, r, h⟩ (each_vals q t)
theorem vals_each {α : Type} {RR : V → α → Prop} : ∀ {us : List Value} {rs : List α}, PySem.W.EachIs (fun u r => ∃ x, RelV x u ∧ RR x r) us rs → ∃ xs, Vals xs us ∧ PySem.W.EachIs RR xs rs
  | _, _, .nil => ⟨[], .nil, .nil⟩
  | _, _, .cons ⟨x, h1, h2⟩ t => let ⟨xs, a, b⟩ := vals_each t; ⟨x :: xs, .cons h1 a, .cons h2 b⟩
/-- sorted(list of alike data): RR tells what the items are -/
def uSorted (K : PySem.W.Frag) : List V → Hp → VK → Prop := fun vs H Q => ∃ (α : Type) (RR : V → α → Prop) (enc : α → PyData) (a : Addr) (xs : List V) (rs : List α), vs = [.ref a] ∧ SqL K H a xs ∧ PySem.W.EachIs RR xs rs ∧
  (∀ x r, RR x r → Dp K H x (enc r)) ∧ PySem.W.AllAlike (rs.map enc) ∧ PySem.W.Sortable (rs.map enc) ∧ (∀ r ∈ rs, (enc r).depth ≤ 50) ∧
  ∀ ys, ys.length = xs.length → PySem.W.EachIs RR ys (rs.mergeSort (PySem.W.dataLe false enc)) → Mk H (.lst ys) Q
theorem call_uSorted {X : Cx} (hu : X.A.units + 64 < cLine) : CallR X (.builtin "sorted") (uSorted X.K) := by
  intro pins s σ H vs us Q I r h
  obtain ⟨α, RR, enc, a, xs, rs, rfl, hs, he, hd, ha, hk, hdp, q⟩ := h
  obtain ⟨its, rv, hl, hz⟩ := I.list hs
  obtain ⟨u, rfl, ru⟩ := vals1 r
  obtain rfl : u = Value.ref a := ru
  have er := each_vals rv he
  refine PySem.W.sorted_data (R := fun u r => ∃ x, RelV x u ∧ RR x r) hl.isList er (er.mono fun u r ⟨x, h1, h2⟩ => Dp.reads I _ _ _ (hd x r h2) h1) ha hk (by rw [← he.length]; exact hz) (fun b hb => by have := hdp b hb; omega) fun out ho eo => ?_
  obtain ⟨ys, v1, e1⟩ := vals_each eo
  obtain ⟨n, hn⟩ := sortedAll_at s.heap its (List.toArray out)
  have hly : ys.length = xs.length := by rw [v1.length, ho, he.length]
  refine ⟨.ref (s.heap.objs.size + 1), upd H (s.heap.objs.size + 1) (.lst ys), I.laid (t' := s.toks) (fun b o e => sortedAll_old e) (Nat.le_succ _) ⟨by rw [hly]; exact hz, out, n, v1, hn⟩, rfl, ?_⟩
  have nf := I.hok.fresh (Nat.le_succ s.heap.objs.size)
  exact q ys hly e1 _ _ nf (Keep.new nf) upd_same
end Wg

/-! Wagon, part 14: dict(pairs), list.clear. -/
namespace Wg
open PySem PySem.Spec PyProof.Rows L2
def uDictP (K : PySem.W.Frag) : List V → Hp → VK → Prop := fun xs H Q => ∃ (a : Addr) (ps : List Addr) (kvs : List (Key × V)), xs = [.ref a] ∧ SqL K H a (ps.map V.ref) ∧ Paired (fun p kv => SqT K H p [kV kv.1, kv.2]) ps kvs ∧ Mk H (.dK (mergeK [] kvs)) Q
theorem call_uDictP {X : Cx} (hc : X.calm = true) : CallR X (.type "dict") (uDictP X.K) := by
  intro pins s σ H xs us Q I r h
  obtain ⟨a, ps, kvs, e1, e2, e3, q⟩ := h
  exact call_dictP hc pins s σ H xs us Q I r ⟨a, ps, kvs, e1, e2, e3, fun p n => q.at p n⟩
def uClear : V → List V → Hp → VK → Prop := fun x vs H Q => ∃ l xs, x = .ref l ∧ vs = [] ∧ H l = some (.lst xs) ∧ Ch H l (.lst []) (Q .non)
theorem mt_uClear {X : Cx} : MtM X "list.clear" uClear := by
  intro pins s σ H x vs v us Q I rx rv h
  obtain ⟨l, xs, e1, e2, e3, q⟩ := h
  exact mt_clear pins s σ H x vs v us Q I rx rv ⟨l, xs, e1, e2, e3, q.at⟩
theorem g_clear {l : Addr} {xs : List V} {H : Hp} {Q : VK} (h : H l = some (.lst xs)) (q : ∀ H', Keep [l] H H' → H' l = some (.lst []) → Q .non H') : uClear (.ref l) [] H Q := ⟨l, xs, rfl, rfl, h, q⟩
theorem merge_nodup : ∀ (more acc : List (Key × V)), ((acc ++ more).map (·.1)).Nodup → mergeK acc more = acc ++ more
  | [], acc, _ => (List.append_nil acc).symm
  | (k, v) :: more, acc, h => by
    have e : acc ++ (k, v) :: more = (acc ++ [(k, v)]) ++ more := by simp
    have hk : (acc.any fun kv => decide (kv.1 = k)) = false := by
      rw [List.any_eq_false]
      intro x hx hq
      rw [List.map_append, List.nodup_append] at h
      exact h.2.2 x.1 (List.mem_map.mpr ⟨x, hx, rfl⟩) k (by simp) (of_decide_eq_true hq)
    have hp : putK acc k v = acc ++ [(k, v)] := by
      unfold putK
      rw [hk]
      rfl
    show mergeK (putK acc k v) more = _
    rw [hp, e]
    exact merge_nodup more _ (by rw [← e]; exact h)
end Wg
namespace Wg
open PySem PySem.Spec PyProof.Rows L2
def tTupRgM (te : L2.St → Hp → (Int → Int → Hp → Prop) → Prop) : TE := fun σ H Q => te σ H fun a b H1 => RgOk a b ∧ Mt H1 (rgV a b) Q
theorem pe_tupRgM {X : Cx} {e : Expr} {te : L2.St → Hp → (Int → Int → Hp → Prop) → Prop} {p pos : Pos} (hc : X.calm = true) (hg : Gl X "tuple") (hm : X.mg "tuple" = none) (he : PRg X e te) (na : starEach [e] X.env = (false, eval e X.env) :: starEach [] X.env := by rfl) : PE X (.Call (.Name "tuple" p) [e] [] pos) (tTupRgM te) := by
  refine ⟨fun pins s σ H Q I h => ?_⟩
  refine Call_ (ld_blt I hg hm boot_tuple (PyProof.Rows.callWith_type1 (args_cons (thn (he pins s σ H _ I h) fun x s1 ⟨r, a, b, t, u, v, H1, ex, hr, I1, ok, q⟩ => args_nil ?_) na) na))
  subst ex
  obtain ⟨b1, b2, b3, b4, b5⟩ := ok
  refine call_tuple_range (n := (b - a).toNat) (I1.ok.hd hc) hr (small_one b1 b2 b3 b4) (rangeSize_nat a b) b5 fun h' tk acc hk hi => ?_
  have I2 : Inv X pins σ H1 { s1 with heap := h', toks := tk } := I1.kept hk
  have := mt_end (t' := tk) I2 (vals_rg hi) (by rw [rgV_length, sizeLine_eq]; omega) q
  simpa using this
theorem rgV_ints (n : Nat) : rgV 0 (n : Int) = ((List.range n).map fun i => ((i : Nat) : Int)).map V.int := by
  unfold rgV
  rw [List.map_map]
  simp [Function.comp_def]
end Wg

/-! Wagon, part 15: < and min of alike data. -/
namespace Wg
open PySem PySem.Spec PyProof.Rows L2
def uLtD (K : PySem.W.Frag) : R2 := fun x y H Q => ∃ d e, Dp K H x d ∧ Dp K H y e ∧ PySem.W.alike d e = true ∧ d ≠ .none ∧ d.depth ≤ 50 ∧ Q (.bl (PySem.W.dataLt d e)) H
theorem op_uLtD {X : Cx} (hu : X.A.units + 64 < cLine) : OpR X (compareOp .Lt) (uLtD X.K) := by
  intro pins s σ H x y v u Q I rx ry h
  obtain ⟨d, e, h1, h2, h3, h4, h5, q⟩ := h
  obtain ⟨as, r1⟩ := Dp.reads I _ _ _ h1 rx
  obtain ⟨bs, r2⟩ := Dp.reads I _ _ _ h2 ry
  have := Nat.min_le_left d.depth e.depth
  exact PySem.W.lt_data r1 r2 h3 h4 (by omega) ⟨.bl _, H, I, rfl, q⟩
def uMinD (K : PySem.W.Frag) : List V → Hp → VK → Prop := fun vs H Q => ∃ (α : Type) (RR : V → α → Prop) (enc : α → PyData) (a : Addr) (xs : List V) (r : α) (rs : List α), vs = [.ref a] ∧ SqL K H a xs ∧ PySem.W.EachIs RR xs (r :: rs) ∧
  (∀ x r, RR x r → Dp K H x (enc r)) ∧ PySem.W.AlikeAll ((r :: rs).map enc) ∧ PyData.depthAll ((r :: rs).map enc) ≤ 50 ∧ ∀ x m, RR x m → enc m = PySem.W.minD (enc r) (rs.map enc) → Q x H
theorem each_reads {X : Cx} {pins : List (Addr × Obj)} {σ : L2.St} {H : Hp} {s : Shared} (I : Inv X pins σ H s) {α : Type} {RR : V → α → Prop} {enc : α → PyData} (hd : ∀ x r, RR x r → Dp X.K H x (enc r)) : ∀ {xs : List V} {us : List Value} {rs : List α}, Vals xs us → PySem.W.EachIs RR xs rs → ∃ as, ReadsAll s.heap us (rs.map enc) as
  | _, _, _, .nil, .nil => ⟨[], .nil⟩
  | _, _, _, .cons r q, .cons h t => by
    obtain ⟨as, h1⟩ := Dp.reads I _ _ _ (hd _ _ h) r
    obtain ⟨bs, h2⟩ := each_reads I hd q t
    exact ⟨as ++ bs, .cons h1 h2⟩
theorem call_uMinD {X : Cx} (hc : X.calm = true) (hu : X.A.units + 64 < cLine) : CallR X (.builtin "min") (uMinD X.K) := by
  intro pins s σ H vs us Q I r h
  obtain ⟨α, RR, enc, a, xs, r0, rs, rfl, hs, he, hd, ha, hdp, q⟩ := h
  obtain ⟨its, rv, hl, hz⟩ := I.list hs
  obtain ⟨u, rfl, ru⟩ := vals1 r
  obtain rfl : u = Value.ref a := ru
  obtain ⟨as, hr⟩ := each_reads I hd rv he
  refine PySem.W.min_list_data (I.ok.hd hc) hl.isList (x := enc r0) (xs := rs.map enc) (as := as) hr ha (by have e : PyData.depthAll (enc r0 :: rs.map enc) = PyData.depthAll ((r0 :: rs).map enc) := rfl; omega) fun i v h' tk bs hv rd hk => ?_
  have hv' : its[i]? = some v := by simpa using hv
  obtain ⟨b, hb, x, hx, hR⟩ := (each_vals rv he).left v (List.mem_of_getElem? hv')
  refine ⟨x, H, I.kept hk, hx, q x b hR ?_⟩
  obtain ⟨cs, r2⟩ := Dp.reads I _ _ _ (hd _ _ hR) hx
  exact (reads_det (fun b o e _ => hk b o e) r2 rd).1.symm
theorem minD_map {α : Type} (enc : α → PyData) (r : α) (rs : List α) : PySem.W.minD (enc r) (rs.map enc) = enc (rs.foldl (fun a y => if PySem.W.dataLt (enc y) (enc a) then y else a) r) := by
  unfold PySem.W.minD
  induction rs generalizing r with
  | nil => rfl
  | cons b rs ih =>
    rw [List.map_cons, List.foldl_cons, List.foldl_cons, ← ih]
    congr 1
    split <;> rfl
end Wg
namespace Wg
open PySem PySem.Spec PyProof.Rows L2
/-- a for over enumerate(list), behind its argument -/
def FEl (K : PySem.W.Frag) (g : TG) (tb : TS) (D : Ends) (σ : L2.St) (vs : List V) (H1 : Hp) : Prop := ∃ a xs, vs = [.ref a] ∧ SqL K H1 a xs ∧ ∃ W : Nat → Nat → L2.St → Hp → Prop, (∃ m, W 0 m σ H1) ∧ ∀ i m σ H, W i m σ H →
  ((Ite K a).stop i H ∧ D.nx σ H) ∨ ((Ite K a).go i H ∧ ∃ N : L2.St → Hp → Prop, (∀ σ' H', N σ' H' → ∃ m', m' < m ∧ W (i + 1) m' σ' H') ∧ ∀ x H', (Ite K a).yld i H x H' → g x σ H' fun σ2 H2 => tb { D with nx := N, ct := N, bk := D.nx } σ2 H2)
theorem e_forEl {K : PySem.W.Frag} {ta : TA} {g : TG} {tb : TS} {D : Ends} {σ : L2.St} {H : Hp} : tFor (iEnum K ta) g tb D σ H ↔ ta σ H (FEl K g tb D σ) := Iff.rfl
theorem g_FEl {K : PySem.W.Frag} {g : TG} {tb : TS} {D : Ends} {σ : L2.St} {H1 : Hp} {a : Addr} {xs : List V} (Pv : Nat → L2.St → Hp → Prop) (h : H1 a = some (.lst xs)) (h0 : Pv 0 σ H1) (hl : ∀ i σ H, i ≤ xs.length → Pv i σ H → H a = some (.lst xs))
    (hs : ∀ i x σ H T H', xs[i]? = some x → Pv i σ H → H T = none → Keep [] H H' → H' T = some (.tup [.int (i : Nat), x]) → g (.ref T) σ H' fun σ2 H2 => tb { D with nx := Pv (i + 1), ct := Pv (i + 1), bk := D.nx } σ2 H2) (hd : ∀ σ H, Pv xs.length σ H → D.nx σ H) : FEl K g tb D σ [.ref a] H1 := by
  refine ⟨a, xs, rfl, lst_sq h, fun i m σ H => m = xs.length - i ∧ i ≤ xs.length ∧ Pv i σ H, ⟨xs.length, by simp, Nat.zero_le _, h0⟩, ?_⟩
  rintro i m σ H ⟨rfl, hi, p⟩
  have tu := lst_sq (K := K) (hl i σ H hi p)
  by_cases hlt : i < xs.length
  · refine .inr ⟨⟨xs, _, tu, List.getElem?_eq_getElem hlt⟩, Pv (i + 1), fun σ' H' p' => ⟨xs.length - (i + 1), by omega, rfl, hlt, p'⟩, fun x H' y => ?_⟩
    obtain ⟨T, u, rfl, nT, rfl, hu⟩ := y
    exact hs i u σ H T _ (hu xs tu) p nT (Keep.new nT) upd_same
  · have e : i = xs.length := by omega
    subst e
    exact .inl ⟨⟨xs, tu, Nat.le_refl _⟩, hd σ H p⟩
theorem g_truL {K : PySem.W.Frag} {p : Addr} {xs : List V} {H : Hp} {k : Bool} (h : H p = some (.lst xs)) (e : k = !xs.isEmpty) : TruV K (.ref p) H k := .inl ⟨xs, lst_sq h, e⟩
end Wg

/-! Wagon, part 16: list.remove of data; whiles. -/
namespace Wg
open PySem PySem.Spec PyProof.Rows L2
def uRemD (K : PySem.W.Frag) : V → List V → Hp → VK → Prop := fun x vs H Q => ∃ (l : Addr) (xs : List V) (y : V) (d : PyData) (ds : List PyData) (j : Nat), x = .ref l ∧ vs = [y] ∧ H l = some (.lst xs) ∧ DpAll K H xs ds ∧ Dp K H y d ∧
  PyData.plainAll ds = true ∧ d.plain = true ∧ d.depth ≤ 50 ∧ PySem.SeqAt.dataPlace ds d = some j ∧ Ch H l (.lst (xs.eraseIdx j)) (Q .non)
theorem mt_uRemD {X : Cx} (hu : X.A.units + 64 < cLine) : MtM X "list.remove" (uRemD X.K) := by
  intro pins s σ H x vs v us Q I rx rv h
  obtain ⟨l, xs, y, d, ds, j, rfl, rfl, hH, hds, hd, p1, p2, hdp, hj, q⟩ := h
  cases rx
  obtain ⟨u, rfl, ru⟩ := rv.one
  obtain ⟨z, its, n, r, hl, e⟩ := I.lstM hH
  obtain ⟨as, rs⟩ := Dp.readsAll I _ _ _ hds r
  obtain ⟨bs, rd⟩ := Dp.reads I _ _ _ hd ru
  have := Nat.min_le_right (PyData.depthAll ds) d.depth
  refine PySem.SeqAt.remove_list_data (j := j) ⟨_, e, rfl, n, rfl⟩ (by simpa using rs) rd p1 p2 (by omega) hj (by rw [List.size_toArray]; omega) ?_
  refine ⟨.non, _, I.lset (its' := its.eraseIdx j) (ys := xs.eraseIdx j) (t' := s.toks) hH e ?_ (r.eraseIdx j) ?_, rfl, q.at⟩
  · show its.toArray.eraseIdxIfInBounds j = (its.eraseIdx j).toArray
    rw [List.eraseIdxIfInBounds_toArray]
  · have := List.length_eraseIdx_le xs j
    omega
end Wg

/-! Wagon, part 17: tuple + tuple wherever they stand. -/
namespace Wg
open PySem PySem.Spec PyProof.Rows L2
def uAddQ (K : PySem.W.Frag) : R2 := fun x y H Q => ∃ a b xs ys, x = .ref a ∧ y = .ref b ∧ SqT K H a xs ∧ SqT K H b ys ∧ xs ≠ [] ∧ ys ≠ [] ∧ xs.length + ys.length ≤ sizeLine ∧ Mt H (xs ++ ys) Q
theorem op_uAddQ {X : Cx} : OpR X (binaryOp .Add) (uAddQ X.K) := by
  intro pins s σ H x y v u Q I rx ry h
  obtain ⟨a, b, xs, ys, rfl, rfl, ha, hb, e1, e2, z, q⟩ := h
  cases rx
  cases ry
  obtain ⟨its, r1, p1, _⟩ := I.tuple ha
  obtain ⟨its2, r2, p2, _⟩ := I.tuple hb
  refine HT.cat_tup p1 p2 (fun c => e1 (r1.nil_iff.mp c)) (fun c => absurd (r2.nil_iff.mp c) e2) (fun c => ?_) (by rw [← r1.length, ← r2.length]; exact z)
  exact mt_end (t' := s.toks) I (r1.append r2) (by rw [List.length_append]; exact z) q
end Wg

/-! Wagon, part 18: a comprehension of two fors; list.extend by a list or tuple. -/
namespace Wg
open PySem PySem.Spec PyProof.Rows L2

def CU2 (K : PySem.W.Frag) (g : TG) (tt : TT) (wi1 : TI) (g1 : TG) (tt1 : TT) (te : TE) (vs vs1 : List Nat) (σ : L2.St) (Q : VK) (x : V) (H1 : Hp) : Prop := tLc2 (iU K (tC x)) g tt wi1 g1 tt1 te vs vs1 σ H1 Q
theorem e_lc2U {K : PySem.W.Frag} {tl : TE} {g : TG} {tt : TT} {wi1 : TI} {g1 : TG} {tt1 : TT} {te : TE} {vs vs1 : List Nat} {σ : L2.St} {H : Hp} {Q : VK} : tLc2 (iU K tl) g tt wi1 g1 tt1 te vs vs1 σ H Q ↔ tl σ H (CU2 K g tt wi1 g1 tt1 te vs vs1 σ Q) := Iff.rfl
/-- [y for z in zs for y in f(z)], of texts; f(z) a fresh list -/
theorem g_C2 {K : PySem.W.Frag} {tl1 : TE} {σ : L2.St} {H1 : Hp} {Q : VK} {a : Addr} {i j : Nat} {vs vs1 : List Nat} (zs : List Str) (f : Str → List Str) (hx : H1 a = some (.lst (zs.map V.str)) ∨ Tup H1 a (zs.map V.str))
    (hw : ∀ v, wipe ((wipe σ vs).set i v) vs = wipe σ vs) (hw1 : ∀ v u, wipe ((wipe ((wipe σ vs).set i v) vs1).set j u) vs1 = wipe ((wipe σ vs).set i v) vs1) (hw2 : ∀ v, wipe ((wipe σ vs).set i v) vs1 = (wipe σ vs).set i v)
    (hj : ∀ v u, ((wipe ((wipe σ vs).set i v) vs1).set j (some u))[j]? = some (some u))
    (hl : ∀ ws : List Str, (∀ z ∈ ws, z ∈ zs) → ws.length ≤ zs.length → (ws.flatMap f).length < 1000) (hl1 : ∀ z ∈ zs, (f z).length < 1000)
    (hc : ∀ z ∈ zs, ∀ H3 (Q1 : VK), Keep [] H1 H3 → (∀ l H4, H3 l = none → Keep [] H3 H4 → H4 l = some (.lst ((f z).map V.str)) → Q1 (.ref l) H4) → tl1 ((wipe σ vs).set i (some (.str z))) H3 Q1)
    (hd : ∀ D H, H1 D = none → Keep [] H1 H → H D = some (.lst ((zs.flatMap f).map V.str)) → Q (.ref D) H) : CU2 K (gName i) tYes (iU K tl1) (gName j) tYes (tVar j) vs vs1 σ Q (.ref a) H1 := by
  have core : ∀ J : It, (∀ n H, n < zs.length → Keep [] H1 H → J.go n H) → (∀ n H x H', n < zs.length → Keep [] H1 H → J.yld n H x H' → x = .str (zs.getD n "") ∧ H' = H) → (∀ H, Keep [] H1 H → J.stop zs.length H) →
      ∀ D, H1 D = none → ∃ W : Nat → Nat → Hp → Prop, (∃ m, W 0 m (upd H1 D (.lst []))) ∧ ∀ n m H, W n m H →
  (J.stop n H ∧ Q (.ref D) H) ∨ (J.go n H ∧ ∃ Nx : Hp → Prop, (∀ H', Nx H' → ∃ m', m' < m ∧ W (n + 1) m' H') ∧ ∀ x H', J.yld n H x H' → gName i x (wipe σ vs) H' fun σ2 H2 => wipe σ2 vs = wipe σ vs ∧ tYes σ2 H2 fun b H3 =>
    if b = true then iU K tl1 σ2 H3 fun J1 H4 => ∃ W1 : Nat → Nat → Hp → Prop, (∃ m, W1 0 m H4) ∧ ∀ jj k H, W1 jj k H →
      (J1.stop jj H ∧ Nx H) ∨ (J1.go jj H ∧ ∃ Nx1 : Hp → Prop, (∀ H', Nx1 H' → ∃ k', k' < k ∧ W1 (jj + 1) k' H') ∧ ∀ x H', J1.yld jj H x H' → gName j x (wipe σ2 vs1) H' fun σ3 H5 => wipe σ3 vs1 = wipe σ2 vs1 ∧ tYes σ3 H5 fun b H6 =>
        if b = true then tVar j σ3 H6 fun y H7 => ∃ acc, H7 D = some (.lst acc) ∧ acc.length < sizeLine ∧ Nx1 (upd H7 D (.lst (acc ++ [y]))) else Nx1 H6)
    else Nx H3) := by
    intro J hgo hy hst D hD
    refine ⟨fun n m H => m = zs.length - n ∧ n ≤ zs.length ∧ Keep [] H1 H ∧ H D = some (.lst (((zs.take n).flatMap f).map V.str)), ⟨zs.length, by omega, by omega, Keep.new hD, upd_same⟩, ?_⟩
    rintro n m H ⟨rfl, hn, k, eD⟩
    by_cases hlt : n < zs.length
    · refine .inr ⟨hgo n H hlt k, fun H' => Keep [] H1 H' ∧ H' D = some (.lst (((zs.take (n + 1)).flatMap f).map V.str)), fun H' q => ⟨zs.length - (n + 1), by omega, rfl, hlt, q⟩, fun x H' y => ?_⟩
      obtain ⟨ex, eh⟩ := hy n H x H' hlt k y
      have hz : zs[n]? = some (zs.getD n "") := by rw [List.getD_eq_getElem?_getD, List.getElem?_eq_getElem hlt]; rfl
      rw [ex, eh]
      generalize zs.getD n "" = z at hz
      have hzm := List.mem_of_getElem? hz
      have htk : (zs.take (n + 1)).flatMap f = (zs.take n).flatMap f ++ f z := by rw [List.take_succ, hz, List.flatMap_append]; simp
      refine ⟨hw _, ?_⟩
      unfold tYes
      show (if true = true then _ else _)
      rw [if_pos rfl]
      refine hc z hzm H _ k fun l H4 nl k4 e4 => .inl ⟨l, _, rfl, lst_sq e4, ?_⟩
      have nDl : D ≠ l := ne_of_none eD nl
      refine ⟨fun jj kk H' => kk = (f z).length - jj ∧ jj ≤ (f z).length ∧ Keep [D] H4 H' ∧ H' D = some (.lst (((zs.take n).flatMap f ++ (f z).take jj).map V.str)), ⟨(f z).length, by omega, by omega, Keep.refl _ _, by rw [List.take_zero, List.append_nil]; exact k4 _ _ nin0 eD⟩, ?_⟩
      rintro jj kk H5 ⟨rfl, hjj, k5, e5⟩
      have el5 := k5 _ _ (nin1 nDl.symm) e4
      by_cases hlt2 : jj < (f z).length
      · have hy2 : (f z)[jj]? = some (f z)[jj] := List.getElem?_eq_getElem hlt2
        have hym : ((f z).map V.str)[jj]? = some (.str (f z)[jj]) := by rw [List.getElem?_map, hy2]; rfl
        refine .inr ⟨⟨_, _, lst_sq el5, hym⟩, fun H' => Keep [D] H4 H' ∧ H' D = some (.lst (((zs.take n).flatMap f ++ (f z).take (jj + 1)).map V.str)), fun H' q => ⟨(f z).length - (jj + 1), by omega, rfl, hlt2, q⟩, fun x H' y => ?_⟩
        obtain ⟨e1, e2⟩ := y
        have e3 := e2 _ (lst_sq el5)
        rw [hym] at e3
        cases e3
        rw [e1]
        refine ⟨hw1 _ _, ?_⟩
        show (if true = true then _ else _)
        rw [if_pos rfl]
        refine ⟨_, hj _ _, _, e5, ?_, k5.trans Keep.set, ?_⟩
        · have h1 := hl (zs.take n) (fun w hw => List.mem_of_mem_take hw) (by rw [List.length_take]; omega)
          have h2 := hl1 z hzm
          rw [List.length_map, List.length_append, List.length_take]
          exact len_lt (by omega)
        · rw [upd_same, List.take_succ, hy2]
          simp only [List.map_append, Option.toList, List.map_cons, List.map_nil, List.append_assoc]
      · have e : jj = (f z).length := by omega
        subst e
        refine .inl ⟨⟨_, lst_sq el5, by rw [List.length_map]; exact Nat.le_refl _⟩, (k.trans k4).past k5 hD, ?_⟩
        rw [htk, e5, List.take_length]
    · have e : n = zs.length := by omega
      subst e
      rw [List.take_length] at eD
      exact .inl ⟨hst H k, hd D H hD k eD⟩
  have gt : ∀ {n : Nat}, n < zs.length → (zs.map V.str)[n]? = some (.str (zs.getD n "")) := fun h => by
    rw [List.getElem?_map, List.getD_eq_getElem?_getD, List.getElem?_eq_getElem h]; rfl
  rcases hx with hx | hx
  · refine .inl ⟨a, _, rfl, lst_sq hx, core (Itl K a) (fun n H h k => ⟨_, _, lst_sq (k _ _ nin0 hx), gt h⟩) (fun n H x H' h k y => ?_) fun H k => ⟨_, lst_sq (k _ _ nin0 hx), by rw [List.length_map]; exact Nat.le_refl _⟩⟩
    obtain ⟨e1, e2⟩ := y
    have := e2 _ (lst_sq (k _ _ nin0 hx))
    rw [gt h] at this
    cases this
    exact ⟨rfl, e1⟩
  · refine .inr (.inl ⟨a, _, rfl, hx.sq, core (Itt K a) (fun n H h k => ⟨_, _, (hx.keep k nin0).sq, gt h⟩) (fun n H x H' h k y => ?_) fun H k => ⟨_, (hx.keep k nin0).sq, by rw [List.length_map]; exact Nat.le_refl _⟩⟩)
    obtain ⟨e1, e2⟩ := y
    have := e2 _ (hx.keep k nin0).sq
    rw [gt h] at this
    cases this
    exact ⟨rfl, e1⟩
/-- a comprehension within a comprehension, that reads no name of what is around it but by cells that are there -/
theorem blkOk_any {N : List Str} {sc scope : Scope} {own : List (Str × Nat)} (h : blkC N { kind := .function, names := [], isGenerator := false, isCoroutine := false } scope own = true) : BlkOk N sc scope own := by
  have b := blkOk_by h
  exact ⟨b.kind, b.uniq, b.ix, fun y hy e => by rcases b.free y hy e with z | z <;> simp at z, b.own⟩
section
variable {X : Cx}
/-- a proper slice of a tuple wherever it stands -/
def uSlQ (K : PySem.W.Frag) : V → Option Int → Option Int → Hp → VK → Prop := fun x lo hi H Q => ∃ a xs, x = .ref a ∧ SqT K H a xs ∧ ¬ (HT.sIx xs.length 0 lo = 0 ∧ HT.sIx xs.length xs.length hi = xs.length) ∧ Mt H (cutV xs lo hi) Q
theorem sl_uQ : SlR X (uSlQ X.K) := by
  intro pins s σ H x v vl vu lo hi sl Q I rx hs pl pu h
  obtain ⟨a, xs, rfl, hx, c, q2⟩ := h
  cases rx
  obtain ⟨its, r, ht, hz⟩ := I.tuple hx
  have hlen : its.toArray.size = xs.length := by
    rw [List.size_toArray]
    exact r.length.symm
  refine ⟨"tuple", _, PyProof.Rows.slot_tuple_getitem.lookup, ht.typeIs, ?_⟩
  refine HT.getItem_tuple_cut ht hs pl pu (by rw [hlen]; exact c) ?_ (by rw [hlen]; exact hz)
  rw [hlen]
  exact mt_end (t' := s.toks) I ((r.drop (HT.sIx xs.length 0 lo)).take (HT.sIx xs.length xs.length hi - HT.sIx xs.length 0 lo)) (Nat.le_trans (cutV_length xs lo hi) hz) q2
def uExtT : V → List V → Hp → VK → Prop := fun x vs H Q => ∃ l b xs zs, x = .ref l ∧ vs = [.ref b] ∧ H l = some (.lst xs) ∧ (H b = some (.lst zs) ∨ Tup H b zs) ∧ xs.length + zs.length ≤ sizeLine ∧ Ch H l (.lst (xs ++ zs)) (Q .non)
theorem mt_uExtT : MtM X "list.extend" uExtT := by
  intro pins s σ H x vs v us Q I rx rv h
  obtain ⟨l, b, xs, zs, e1, e2, e3, e4, e5, q⟩ := h
  rcases e4 with e4 | e4
  · exact mt_extend pins s σ H x vs v us Q I rx rv ⟨l, b, xs, zs, e1, e2, e3, e4, e5, q.at⟩
  · subst e1 e2
    cases rx
    obtain ⟨u, rfl, ru⟩ := rv.one
    cases ru
    obtain ⟨z, its, n, r, hl, e⟩ := I.lstM e3
    obtain ⟨its2, n2, r2, hl2, e2⟩ := Tup.obj I e4
    have l2 := r2.length
    have hsz : its.toArray.size + its2.toArray.size ≤ sizeLine := by rw [List.size_toArray, List.size_toArray]; omega
    have hlong : ¬ (!its.toArray.isEmpty && Builtin.List.listTooLong (its.toArray.size + its2.toArray.size)) = true := by
      rw [notLongL hsz, Bool.and_false]
      exact Bool.false_ne_true
    refine call_meets F.slot_list_extend ⟨_, e, rfl⟩ F.entry_list_extend (F.args_list_extend_2 _ _)
      (AutoSeq1.list_extend_list_tuple_0 l its.toArray n b its2.toArray n2 hlong (by rw [List.size_toArray]; omega) (by omega)) ⟨e, e2, ?_⟩
    refine ⟨.non, _, I.lset (its' := its ++ its2) e3 e (by simp) (r.append r2) ?_, rfl, q.at⟩
    rw [List.length_append]
    omega
end
theorem g_extT {l b : Addr} {xs zs : List V} {H : Hp} {Q : VK} (h : H l = some (.lst xs)) (e : Tup H b zs) (z : xs.length + zs.length ≤ 1000) (q : ∀ H', Keep [l] H H' → H' l = some (.lst (xs ++ zs)) → Q .non H') : uExtT (.ref l) [.ref b] H Q := ⟨l, b, xs, zs, rfl, rfl, h, .inr e, len_le (by omega), q⟩
end Wg

/-! Wagon, part 19: xs[::k], k 1 or -1, of a list. -/
namespace Wg
open PySem PySem.Spec PyProof.Rows L2
theorem pick_one (items : Array Value) : slicePick items none none (some 1) = items := by
  have h : slicePick items none none (some 1) = slicePick items none none none := rfl
  rw [h, show items = items.toList.toArray by simp, slicePick_cut]
  simp [HT.sIx]
  rw [List.take_of_length_le (by simp)]
section
variable {X : Cx}
def tStepL (K : PySem.W.Frag) (te ts : TE) : TE := fun σ H Q => te σ H fun x H1 => tPart ts σ H1 fun o H2 => ∃ a xs v, x = .ref a ∧ SqL K H2 a xs ∧ o = some v ∧ (v = 1 ∨ v = -1) ∧ ∀ p, H2 p = none → Q (.ref p) (upd H2 p (.lst (if v = 1 then xs else xs.reverse)))
theorem pe_stepL {e es : Expr} {te ts : TE} {p3 pos : Pos} (he : PE X e te) (hs : PE X es ts) : PE X (.Subscript e (.Slice none none (some es) p3) pos) (tStepL X.K te ts) := by
  refine ⟨fun pins s σ H Q I h => ?_⟩
  refine Subscript_ (thn (he.run pins s σ H _ I h) fun v s1 ⟨x, H1, I1, r1, q1⟩ => ?_)
  have hst : PO X (some es) (tPart ts) := po_some hs
  refine wpAny_Slice (thn (po_none.run pins s1 σ H1 (fun o H2 => o = none ∧ H2 = H1) I1 ⟨rfl, rfl⟩) fun vl s2 ⟨l, H2, I2, pl, el, e2⟩ => ?_)
  subst el e2
  refine thn (po_none.run pins s2 σ H2 (fun o H3 => o = none ∧ H3 = H2) I2 ⟨rfl, rfl⟩) fun vu s3 ⟨u, H3, I3, pu, eu, e3⟩ => ?_
  subst eu e3
  refine thn (hst.run pins s3 σ H3 _ I3 q1) fun vs s4 ⟨o, H4, I4, ps, q4⟩ => ?_
  obtain ⟨a, xs, w, ex, hx, eo, hw, q⟩ := q4
  subst ex eo
  cases r1
  have I5 : Inv X pins σ H4 { s4 with heap := s4.heap.push { cls := .type "slice", data := .fields #[vl, vu, vs] } } := I4.kept (t' := s4.toks) fun b ob q => Heap.get?_push_of_some _ q
  obtain ⟨its, r, ht, hz⟩ := I5.list hx
  have hlen := r.length
  show wpAny (model X.prog X.w) X.A (subscriptTail e (.Slice none none (some es) p3) (.ref a) (.ref s4.heap.objs.size)) (EP X pins σ Q) X.xe { s4 with heap := s4.heap.push { cls := .type "slice", data := .fields #[vl, vu, vs] } }
  refine tail_any (ops := [.ref a, .ref s4.heap.objs.size]) ht.isList.typeIs (PySem.slot_list_getitem.lookup) ?_ (by with_unfolding_all rfl)
  refine wpAny_getItem_list_slice ht.isList (Heap.IsSliceOf.new _ vl vu vs) pl pu ps (by rcases hw with rfl | rfl <;> decide) ?_ (by rw [List.size_toArray]; omega)
  rcases hw with rfl | rfl
  · rw [pick_one]
    refine ⟨.ref _, _, I5.laid (t' := s4.toks) (o := .lst xs) (fun b ob q => Heap.get?_push_of_some _ q) (Nat.le_refl _) ?_, rfl, q _ (I5.hok.fresh (Nat.le_refl _))⟩
    exact ⟨hz, _, 0, r, Heap.get?_push_size _ rfl⟩
  · rw [PySem.W.krv_pick]
    refine ⟨.ref _, _, I5.laid (t' := s4.toks) (o := .lst xs.reverse) (fun b ob q => Heap.get?_push_of_some _ q) (Nat.le_refl _) ?_, rfl, q _ (I5.hok.fresh (Nat.le_refl _))⟩
    exact ⟨by rw [List.length_reverse]; exact hz, _, 0, r.reverse, Heap.get?_push_size _ rfl⟩
end
theorem e_stepL {K : PySem.W.Frag} {te ts : TE} {σ : L2.St} {H : Hp} {Q : VK} : tStepL K te ts σ H Q ↔ te σ H fun x H1 => ts σ H1 fun y H2 => ∃ i, y = .int i ∧ ∃ a xs v, x = .ref a ∧ SqL K H2 a xs ∧ some i = some v ∧ (v = 1 ∨ v = -1) ∧ ∀ p, H2 p = none → Q (.ref p) (upd H2 p (.lst (if v = 1 then xs else xs.reverse))) := Iff.rfl
end Wg

/-! Wagon, part 20: a for over zip of two tuples  -/
namespace Wg
open PySem PySem.Spec PyProof.Rows L2 RZ
def FZ (K : PySem.W.Frag) (g : TG) (tb : TS) (D : Ends) (σ : L2.St) (vs : List V) (H1 : Hp) : Prop := tFor (iZipA K (fun _ H Q => Q vs H)) g tb D σ H1
theorem e_forZ {K : PySem.W.Frag} {ta : TA} {g : TG} {tb : TS} {D : Ends} {σ : L2.St} {H : Hp} : tFor (iZipA K ta) g tb D σ H ↔ ta σ H (FZ K g tb D σ) := Iff.rfl
theorem g_FZ {K : PySem.W.Frag} {g : TG} {tb : TS} {D : Ends} {σ : L2.St} {H1 : Hp} {a b : Addr} {xs ys : List V} (Pv : Nat → L2.St → Hp → Prop) (ha : Tup H1 a xs) (hb : Tup H1 b ys) (hl2 : xs.length = ys.length) (h0 : Pv 0 σ H1) (hl : ∀ i σ H, i ≤ xs.length → Pv i σ H → Tup H a xs ∧ Tup H b ys)
    (hs : ∀ i x y σ H T H', xs[i]? = some x → ys[i]? = some y → Pv i σ H → H T = none → Keep [] H H' → H' T = some (.tup [x, y]) → g (.ref T) σ H' fun σ2 H2 => tb { D with nx := Pv (i + 1), ct := Pv (i + 1), bk := D.nx } σ2 H2) (hd : ∀ σ H, Pv xs.length σ H → D.nx σ H) : FZ K g tb D σ [.ref a, .ref b] H1 := by
  refine ⟨a, b, xs, ys, rfl, .inr ⟨ha.sq, hb.sq, fun i m σ H => m = xs.length - i ∧ i ≤ xs.length ∧ Pv i σ H, ⟨xs.length, by simp, Nat.zero_le _, h0⟩, ?_⟩⟩
  rintro i m σ H ⟨rfl, hi, p⟩
  obtain ⟨ta, tb'⟩ := hl i σ H hi p
  by_cases hlt : i < xs.length
  · have hx := List.getElem?_eq_getElem hlt
    have hy := List.getElem?_eq_getElem (show i < ys.length by omega)
    refine .inr ⟨⟨xs, ys, _, _, ta.sq, tb'.sq, hx, hy⟩, Pv (i + 1), fun σ' H' p' => ⟨xs.length - (i + 1), by omega, rfl, hlt, p'⟩, fun x H' y => ?_⟩
    obtain ⟨T, x', y', rfl, nT, rfl, f1, f2⟩ := y
    exact hs i x' y' σ H T _ (f1 xs ta.sq) (f2 ys tb'.sq) p nT (Keep.new nT) upd_same
  · have e : i = xs.length := by omega
    subst e
    exact .inl ⟨⟨xs, ys, ta.sq, tb'.sq, .inl (Nat.le_refl _)⟩, hd σ H p⟩
end Wg

/-! Wagon, part 21: xs[a:b] = ys. -/
namespace Wg
open PySem PySem.Spec PyProof.Rows L2
section
variable {X : Cx}
def gSli (to tl th : TE) : TG := fun v σ H R => to σ H fun x H1 => tl σ H1 fun i H2 => th σ H2 fun j H3 => ∃ l b xs ys a c, x = .ref l ∧ v = .ref b ∧ i = .int a ∧ j = .int c ∧ H3 l = some (.lst xs) ∧ H3 b = some (.lst ys) ∧ l ≠ b ∧ 0 ≤ a ∧ a ≤ c ∧ c ≤ xs.length ∧ xs.length + ys.length ≤ sizeLine ∧
  Ch H3 l (.lst (xs.take a.toNat ++ ys ++ xs.drop c.toNat)) (R σ)
theorem pg_sli {o lo hi : Expr} {to tl th : TE} {p2 pos : Pos} (ho : PE X o to) (hl : PE X lo tl) (hh : PE X hi th)
    (ha : ∀ v, assign (.Subscript o (.Slice (some lo) (some hi) none p2) pos) X.env v = (do
      let ov ← holding [v] (eval o X.env)
      let iv ← holding [v, ov] (eval (.Slice (some lo) (some hi) none p2) X.env)
      standAt pos
      holding [v, ov, iv] (setItem ov iv v)
      release [iv, v, ov] []) := by intro _; rfl) : PG X (.Subscript o (.Slice (some lo) (some hi) none p2) pos) (gSli to tl th) := by
  refine ⟨fun pins s σ H v u Q I r h => ?_⟩
  rw [ha]
  refine wpAny_bind (wpAny_holding (thn (ho.run pins s σ H _ I h) fun ov s1 ⟨x, H1, I1, r1, q1⟩ => ?_))
  refine wpAny_bind (wpAny_holding ?_)
  refine wpAny_Slice ?_
  rw [evalPart_some, evalPart_some, evalPart_none]
  refine thn (hl.run pins s1 σ H1 _ I1 q1) fun vl s2 ⟨i, H2, I2, r2, q2⟩ => thn (hh.run pins s2 σ H2 _ I2 q2) fun vu s3 ⟨j, H3, I3, r3, q3⟩ => ?_
  refine wpAny_pure ?_
  obtain ⟨l, b, xs, ys, a, c, rfl, rfl, rfl, rfl, e1, e2, ne, h0, hac, hc, hz, q⟩ := q3
  cases r1
  cases r
  have I4 : Inv X pins σ H3 { s3 with heap := s3.heap.push { cls := .type "slice", data := .fields #[vl, vu, .none] } } := I3.kept (t' := s3.toks) fun b ob q => Heap.get?_push_of_some _ q
  refine wpAny_bind (wpAny_standAt (wpAny_bind (wpAny_holding (set_slice I4 e1 e2 ne (Heap.IsSliceOf.new ..) r2 r3 h0 hac hc hz fun s' I5 => ?_))))
  exact wpAny_release ⟨σ, _, I5, q.at⟩
end
end Wg

/-! Wagon, part 22: min(xs, default=None) of a list of ints. -/
namespace Wg
open PySem PySem.Spec PyProof.Rows L2
section
variable {X : Cx}
def tMinN (K : PySem.W.Frag) (ta : TE) : TE := fun σ H Q => ta σ H fun x H1 => ∃ a ns, x = .ref a ∧ SqL K H1 a (ns.map V.int) ∧ (ns = [] → Q .non H1) ∧ ∀ m, m ∈ ns → (∀ y, y ∈ ns → m ≤ y) → Q (.int m) H1
theorem pe_minN {a : Expr} {ta : TE} {j : Nat} {p p2 p3 pos : Pos} (hc : X.calm = true) (hu : X.A.units + 64 < cLine) (hg : Gl X "min") (hm : X.mg "min" = none) (ha : PE X a ta)
    (he : backTo pos (starEach [a] X.env) = (false, eval a X.env) :: backTo pos (starEach [] X.env) := by rfl) :
    PE X (.Call (.Name "min" p) [a] [⟨some "default", .Constant .none j p2, p3⟩] pos) (tMinN X.K ta) := by
  refine ⟨fun pins s σ H Q I h => ?_⟩
  refine wpAny_Call_Name_kw (ld_blt I hg hm (show bootBuiltins "min" = some (.builtin "min") by decide +kernel) ?_)
  refine PyProof.Rows.callWith_kw ?_ he (by rw [he]; rfl)
  rw [he]
  refine Calls.spliced_cons (thn (ha.run pins s σ H _ I h) fun v s1 ⟨x, H1, I1, r1, q1⟩ => ?_)
  refine Calls.spliced_nil ?_
  obtain ⟨l, ns, rfl, hs, q0, q⟩ := q1
  cases r1
  obtain ⟨its, rv, hl, hz⟩ := I1.list hs
  refine PyProof.Rows.kws_cons (Constant_none (PyProof.Rows.kws_nil ?_))
  show wpAny _ _ (call (.builtin "min") [Value.ref l] [(Str.ofString "default", Value.none)]) _ _ _
  have dps : ∀ ns : List Int, DpAll X.K H1 (ns.map V.int) (ns.map .int) := fun ns => by
    induction ns with
    | nil => exact .nil
    | cons n ns ih => exact .cons (.int n) ih
  obtain ⟨as, hr⟩ := Dp.readsAll I1 _ _ _ (dps ns) rv
  have al : PySem.W.AlikeAll (ns.map .int) := by
    refine ⟨fun x hx y hy => ?_, fun x hx => ?_⟩
    · obtain ⟨i, _, rfl⟩ := List.mem_map.mp hx
      obtain ⟨j, _, rfl⟩ := List.mem_map.mp hy
      rfl
    · obtain ⟨i, _, rfl⟩ := List.mem_map.mp hx
      exact fun z => nomatch z
  have dp : PyData.depthAll (ns.map .int) = 0 := by
    clear hr al dps q0 q hs rv hz
    induction ns with
    | nil => simp [PyData.depthAll]
    | cons n ns ih => simp [PyData.depthAll, PyData.depth, ih]
  refine PySem.W.min_list_default (I1.ok.hd hc) hl.isList (as := as) hr al (by omega) (fun e h' tk hk => ?_) fun y ys i v h' tk bs e hv rd hk => ?_
  · exact ⟨.non, H1, I1.kept hk, rfl, q0 (List.map_eq_nil_iff.mp e)⟩
  · cases ns with
    | nil => cases e
    | cons n ns =>
      rw [List.map_cons] at e
      cases e
      rw [PySem.W.minD_ints] at rd
      obtain ⟨t, rfl⟩ : ∃ t, v = .int (ns.foldl min n) t := by
        cases rd
        exact ⟨_, rfl⟩
      have h1 : ∀ (ns : List Int) (n : Int), ns.foldl min n ∈ n :: ns ∧ ∀ y ∈ n :: ns, ns.foldl min n ≤ y := by
        intro ns
        induction ns with
        | nil => intro n; exact ⟨List.mem_singleton.mpr rfl, fun y hy => by rw [List.mem_singleton.mp hy]; exact Int.le_refl _⟩
        | cons m ns ih =>
          intro n
          obtain ⟨a, b⟩ := ih (min n m)
          rw [List.foldl_cons]
          have c := b (min n m) (List.mem_cons_self)
          refine ⟨?_, fun y hy => ?_⟩
          · rcases List.mem_cons.mp a with a | a
            · rw [a]
              by_cases hle : n ≤ m
              · rw [Int.min_eq_left hle]; simp
              · rw [Int.min_eq_right (by omega)]; simp
            · simp [a]
          · rcases List.mem_cons.mp hy with rfl | hy
            · exact Int.le_trans c (Int.min_le_left _ _)
            · rcases List.mem_cons.mp hy with rfl | hy
              · exact Int.le_trans c (Int.min_le_right _ _)
              · exact b y (List.mem_cons_of_mem _ hy)
      exact ⟨.int _, H1, I1.kept hk, ⟨t, rfl⟩, q _ (h1 ns n).1 (h1 ns n).2⟩
end
end Wg

/-! Wagon, part 23: a comprehension over enumerate(tuple); the order of tuples that begin with numbers. -/
namespace Wg
open PySem PySem.Spec PyProof.Rows L2
def CEn (g : TG) (tt : TT) (te : TE) (vs : List Nat) (σ : L2.St) (Q : VK) (ws : List V) (H1 : Hp) : Prop := ∃ a xs, ws = [.ref a] ∧ Tup H1 a xs ∧ CB (Itn a xs) g tt te vs σ Q H1
theorem e_lcEn {K : PySem.W.Frag} {ta : TA} {g : TG} {tt : TT} {te : TE} {vs : List Nat} {σ : L2.St} {H : Hp} {Q : VK} : tLc (iEnumU K ta) g tt te vs σ H Q ↔ ta σ H (CEn g tt te vs σ Q) := Iff.rfl
theorem g_CEn {K : PySem.W.Frag} {g : TG} {tt : TT} {te : TE} {vs : List Nat} {σ : L2.St} {Q : VK} {H1 : Hp} {a : Addr} {us : List V} (ha : Tup H1 a us) (P : Nat → Hp → List V → Prop)
    (p0 : ∀ D H2, H1 D = none → Keep [] H1 H2 → P 0 H2 [])
    (ps : ∀ D i x H acc (R : VK) (R0 : Hp → Prop) T H', H1 D = none → us[i]? = some x → Keep [] H1 H' → H' D = some (.lst acc) → Keep [] H H' → P i H acc → H' T = some (.tup [.int (i : Nat), x]) →
      (∀ z H4, Keep [] H' H4 → acc.length < sizeLine → (∀ H5, Keep [D] H4 H5 → P (i + 1) H5 (acc ++ [z])) → R z H4) → (∀ H3, Keep [] H' H3 → P (i + 1) H3 acc → R0 H3) →
      g (.ref T) (wipe σ vs) H' fun σ2 H2 => wipe σ2 vs = wipe σ vs ∧ tt σ2 H2 fun bb H3 => if bb = true then te σ2 H3 R else R0 H3)
    (pd : ∀ D H acc, H1 D = none → Keep [] H1 H → H D = some (.lst acc) → P us.length H acc → Q (.ref D) H) : CEn g tt te vs σ Q [.ref a] H1 := by
  refine ⟨a, us, rfl, ha, fun D hD => ?_⟩
  refine ⟨fun i m H => m = us.length - i ∧ i ≤ us.length ∧ Keep [] H1 H ∧ ∃ acc, H D = some (.lst acc) ∧ P i H acc, ⟨us.length, by omega, by omega, Keep.new hD, [], upd_same, p0 D _ hD (Keep.new hD)⟩, ?_⟩
  rintro i m H ⟨rfl, hi, k, acc, eD, p⟩
  have ta := ha.keep k nin0
  by_cases hlt : i < us.length
  · have hx := List.getElem?_eq_getElem hlt
    refine .inr ⟨⟨hlt, ta⟩, fun H' => i + 1 ≤ us.length ∧ Keep [] H1 H' ∧ ∃ acc, H' D = some (.lst acc) ∧ P (i + 1) H' acc, fun H' q => ⟨us.length - (i + 1), by omega, rfl, q⟩, fun v H' y => ?_⟩
    obtain ⟨T, x', rfl, hT, rfl, f1⟩ := y
    have kn : Keep [] H (upd H T (.tup [.int (i : Nat), x'])) := Keep.new hT
    refine ps D i x' H acc _ _ T _ hD f1 (k.trans kn) (kn _ _ nin0 eD) kn p upd_same (fun z H4 k4 hz q => ⟨acc, k4 _ _ nin0 (kn _ _ nin0 eD), hz, hlt, (k.trans (kn.trans k4)).past Keep.set hD, _, upd_same, q _ Keep.set⟩) fun H3 k3 q => ⟨hlt, k.trans (kn.trans k3), acc, k3 _ _ nin0 (kn _ _ nin0 eD), q⟩
  · have e : i = us.length := by omega
    subst e
    exact .inl ⟨⟨rfl, ta⟩, pd D H acc hD k eD p⟩
theorem lt_of_head {a b : Int} {r r' : List PyData} (h : a < b) : PySem.W.dataLt (.tuple (.int a :: r)) (.tuple (.int b :: r')) = true := by
  unfold PySem.W.dataLt
  simp only [PySem.W.keyToks, PySem.W.keyToksAll, List.cons_append, List.nil_append]
  simp [PyProof.Rows.lexLt, PyProof.Rows.itemOrd]
  refine .inr ⟨by decide, .inl ?_⟩
  simp [PyProof.Rows.itemLt, h]
theorem nlt_of_head {a b : Int} {r r' : List PyData} (h : b < a) : PySem.W.dataLt (.tuple (.int a :: r)) (.tuple (.int b :: r')) = false := by
  have h1 := lt_of_head (r := r') (r' := r) h
  cases e : PySem.W.dataLt (.tuple (.int a :: r)) (.tuple (.int b :: r')) with
  | false => rfl
  | true =>
    have h2 := (PyProof.Rows.listOrd PyProof.Rows.itemOrd).trans (PySem.W.keyToks (.tuple (.int b :: r'))) (PySem.W.keyToks (.tuple (.int a :: r))) (PySem.W.keyToks (.tuple (.int b :: r'))) h1 e
    have h3 := (PyProof.Rows.listOrd PyProof.Rows.itemOrd).irrefl (PySem.W.keyToks (.tuple (.int b :: r')))
    exact Bool.noConfusion (h3.symm.trans h2)
end Wg

/-! Wagon, part 24: len(set(xs)) of a list of texts, none told twice. -/
namespace Wg
open PySem PySem.Spec PyProof.Rows L2
section
variable {P : Program} {w : World} {A : Around} {R : Result → Shared → Prop} {it : Addr} {near own : List Addr} {G : Array GenState → Array GenState → Prop} {n : Nat} {Pv : Nat → Value → Prop} {St : Nat → Shared → Prop}
variable {K : Type} [DecidableEq K] [BEq K] [LawfulBEq K] {kd : KeyKind P w K}
theorem nodup_next {ks : List K} (nd : ks.Nodup) {i : Nat} (h : i < ks.length) : ks[i] ∉ ks.take i := fun hm => by
  obtain ⟨j, hj, e⟩ := List.getElem_of_mem hm
  rw [List.length_take] at hj
  rw [List.getElem_take] at e
  exact List.pairwise_iff_getElem.mp nd j i (by omega) h (by omega) e
/-- what set.update does over what walks through keys of one kind, none twice -/
theorem put_all (W : WalksS P w A.in1 it near own G n Pv St) {c : Addr} (hc : c ∉ near) {ks : List K} (hl : ks.length = n) (nd : ks.Nodup) (few : n + 1 < scanBound)
    (hv : ∀ i v, Pv i v → ∃ h : i < ks.length, kd.is ks[i] v = true ∧ v.scannable = true) :
    ∀ (m i : Nat), i + m = n → ∀ s : Shared, St i s → s.heap.SetOf kd c (fun k => decide (k ∈ ks.take i)) i →
      (∀ s', Moved (c :: own) G s s' → s'.heap.SetOf kd c (fun k => decide (k ∈ ks)) n → R (.ok (.ret .none)) s') →
      codeAny (model P w) A (.builtin "set.update.loop" ⟨[.ref c, .ref it], []⟩) R s := by
  have nc : c ∉ own := fun h => hc (W.sub c h)
  have up : ∀ {h h' : Heap} {S : K → Bool} {q : Nat}, h.SetOf kd c S q → (∀ o, h.get? c = some o → h'.get? c = some o) → h'.SetOf kd c S q := fun x k => by
    obtain ⟨o, es, ep, t, ho, x⟩ := x
    exact ⟨o, es, ep, t, k o ho, x⟩
  intro m
  induction m with
  | zero =>
    intro i e s st hS fin
    have e : i = n := e
    subst e
    refine codeAny_builtin PyProof.Rows.F.entry_set_update_loop ?_
    rw [Around.under_plainId PyProof.Rows.F.plain_set_update_loop]
    refine wpAny_bind (m := pyNext (.ref it)) (W.done s _ _ st fun s' mv => wpAny_pure (fin s' (mv.mono fun _ h => .tail _ h) ?_))
    have := up hS fun o ho => mv.heap c o nc ho
    have all : ks.take i = ks := by rw [← hl, List.take_length]
    simpa only [all] using this
  | succ m ih =>
    intro i e s st hS fin
    refine codeAny_builtin PyProof.Rows.F.entry_set_update_loop ?_
    rw [Around.under_plainId PyProof.Rows.F.plain_set_update_loop]
    refine wpAny_bind (m := pyNext (.ref it)) (W.item i s _ _ (by omega) st fun v s1 pv st1 mv => ?_)
    obtain ⟨hi, hk, sc⟩ := hv i v pv
    refine wpAny_bind (m := holding [v] (setAdd c v)) (wpAny_holding ?_)
    unfold setAdd
    refine wpAny_holding (wpAny_bind (kd.pyHash hk ?_))
    refine wpAny_setAddHashed_of (s := { s1 with toks := s1.toks + 1 }) hk sc (up hS fun o ho => mv.heap c o nc ho) (by omega) fun h2 same hS2 => ?_
    have no := nodup_next nd hi
    rw [if_neg (by rw [decide_eq_true_eq]; exact no)] at hS2
    have hS3 : h2.SetOf kd c (fun k => decide (k ∈ ks.take (i + 1))) (i + 1) := by
      refine PyProof.Rows.SetOf_congr hS2 (fun k => ?_) rfl
      rw [List.take_succ, List.getElem?_eq_getElem hi]
      simp only [Option.toList_some, List.mem_append, List.mem_singleton, Bool.decide_or]
    refine wpAny_pure ⟨plainId_quiet PyProof.Rows.F.plain_set_update_loop _, ih (i + 1) (by omega) _ (W.frame _ s1 _ _ st1 (Nat.le_succ _) fun b hb o ho => ?_) hS3 fun s2 mv2 hS4 => ?_⟩
    · rw [same.2 b fun x => hc (x ▸ hb)]
      exact ho
    · refine fin s2 (Moved.trans W.gtrans ((mv.mono fun _ h => .tail _ h).then_heap (Nat.le_succ _) fun b o hb ho => ?_) mv2) hS4
      rw [same.2 b fun x => hb (x ▸ .head _)]
      exact ho
end
section
variable {P : Program} {w : World} {A : Around} {E : Value → Shared → Prop} {s : Shared} {K : Type} [DecidableEq K] [BEq K] [LawfulBEq K] {kd : KeyKind P w K}
theorem set_of {l : Addr} {vs : Array Value} {ks : List K} {Q : Value → Shared → Prop} (hh : A.handled = none) (hl : s.heap.IsList l vs) (hn : ks.length = vs.size) (nd : ks.Nodup) (few : vs.size + 1 < scanBound)
    (hv : ∀ (i : Nat) (v : Value), vs[i]? = some v → ∃ h : i < ks.length, kd.is ks[i] v = true ∧ v.scannable = true)
    (q : ∀ (h : Heap) (t : Nat), h.SetOf kd s.heap.objs.size (fun k => decide (k ∈ ks)) vs.size → (∀ b o, b < s.heap.objs.size → s.heap.get? b = some o → h.get? b = some o) → Q (.ref s.heap.objs.size) { s with heap := h, toks := t }) :
    wpAny (model P w) A (call (.type "set") [.ref l]) Q E s := by
  obtain ⟨cl, rest, hmro⟩ := PySem.F.called_set.mro
  have f1 := PySem.F.called_set.made
  have f2 := PySem.F.called_set.sub
  have f3 := PySem.F.called_set.notType
  have f4 := PySem.F.called_set.canCreate
  have f5 := PySem.F.typeCall_set_1 (.ref l)
  have f6 := PySem.F.called_set.init.lookup
  have f7 := PySem.F.called_set.init.bind (.ref s.heap.objs.size)
  refine wpAny_call (codeAny_of_tree ?_)
  change wpAny _ _ (callAny (.type "set") _) _ _ _
  refine wpAny_pure ⟨Code.quiet_builtin _ (by decide +kernel), codeAny_builtin PySem.F.entry_type_call ?_⟩
  rw [Around.under_plain (weight_type_call_type "set" [.ref l] []) rfl]
  repeat (any_goals (first | assumption | wp_step))
  refine codeAny_mono (code_set_new_1 (.ref l) (E := E) (Q₁ := fun r s1 => ∃ b : Bool, r = .ref s.heap.objs.size ∧ s1 = { s with heap := s.heap.push { cls := .type "set", dict := none, data := .set #[] 0 (.fresh 0 0 b) } }) fun b => ⟨b, rfl, rfl⟩) fun r s1 hr => ?_
  rcases r with x | fl
  · exact hr
  cases fl with
  | ret r =>
    obtain ⟨b, rfl, rfl⟩ := hr
    have at0 : (s.heap.push { cls := .type "set", dict := none, data := .set #[] 0 (.fresh 0 0 b) }).get? s.heap.objs.size = some { cls := .type "set", dict := none, data := .set #[] 0 (.fresh 0 0 b) } := Heap.get?_push_size _ rfl
    have ty0 : Shared.TypeIs { s with heap := s.heap.push { cls := .type "set", dict := none, data := .set #[] 0 (.fresh 0 0 b) } } (.ref s.heap.objs.size) "set" := ⟨_, at0, rfl⟩
    repeat (any_goals (first | assumption | wp_step))
    refine codeAny_mono (codeAny_call_builtin (R := wants (fun r s2 => r = .none ∧ ∃ h t, s2 = { s with heap := h, toks := t } ∧ h.SetOf kd s.heap.objs.size (fun k => decide (k ∈ ks)) vs.size ∧
      ∀ b o, b < s.heap.objs.size → s.heap.get? b = some o → h.get? b = some o) E) PySem.F.called_set.init.plain PySem.F.entry_set_init (check_set_init_1 ty0 ?_)) fun r2 s2 hr2 => ?_
    · obtain ⟨⟨kc, kd1, kdat, ksl⟩, g1, g2, nl, g3⟩ := hl
      simp only at g2 g3
      subst g2 g3
      have t1 := PySem.F.sub_list_set
      have t2 := PySem.F.sub_list_frozenset
      have t3 : (Value.type "list" == Value.type "dict") = false := by decide
      have g4 := Heap.get?_push_of_some ({ cls := .type "set", dict := none, data := .set #[] 0 (.fresh 0 0 b) } : Obj) g1
      have here : (s.heap.push { cls := .type "set", dict := none, data := .set #[] 0 (.fresh 0 0 b) }).IsList l vs := ⟨_, g4, rfl, nl, rfl⟩
      have low : l < s.heap.objs.size := Heap.lt_size g1
      unfold Builtin.«set.__init__» noKeywords Builtin.Frozenset.updateFrom
      generalize hpy : pyIter = py
      wp_walk
      subst hpy
      refine wpAny_pyIter_list here (wpAny_bind (wpAny_runValue ?_))
      have sz : (s.heap.push { cls := .type "set", dict := none, data := .set #[] 0 (.fresh 0 0 b) }).objs.size = s.heap.objs.size + 1 := Heap.size_push _ _
      have apart : l ≠ s.heap.objs.size + 1 := Nat.ne_of_lt (Nat.lt_succ_of_lt low)
      have own : s.heap.objs.size ≠ s.heap.objs.size + 1 := Nat.ne_of_lt (Nat.lt_succ_self _)
      have quiet : A.in1.in1.in1.handled = none := by simp [hh]
      refine put_all (kd := kd) ((Walks.list quiet _ l (by rw [sz]; exact apart) vs).toS) (c := s.heap.objs.size) (by rw [sz]; simp only [List.mem_cons, List.not_mem_nil, or_false]; exact fun x => x.elim own (Nat.ne_of_gt low)) hn nd few hv vs.size 0 (by omega) _
        ⟨⟨_, Heap.get?_push_size _ rfl, rfl, rfl⟩, here.push _⟩ ?_ fun s2 mv hS => ?_
      · exact PyProof.Rows.SetOf_congr ((PyProof.Rows.setObjOf_fresh (knd := kd) b).setOf (Heap.get?_push_of_some _ at0) (by unfold scanBound; omega)) (fun k => by simp) rfl
      · obtain ⟨h2, gg, dd, tt, oo⟩ := s2
        obtain rfl : gg = s.gens := mv.gens
        obtain rfl : dd = s.drawn := mv.drawn
        obtain rfl : oo = s.os := mv.os
        refine wpAny_pure (wpAny_pure ⟨rfl, h2, tt, rfl, hS, fun a o ha ho => mv.heap a o ?_ (Heap.get?_push_of_some _ (Heap.get?_push_of_some _ ho))⟩)
        rw [sz]
        simp only [List.mem_cons, List.not_mem_nil, or_false]
        exact fun x => x.elim (Nat.ne_of_lt ha) (Nat.ne_of_lt (Nat.lt_succ_of_lt ha))
    · rcases r2 with x | f2
      · exact hr2
      cases f2 with
      | ret r =>
        obtain ⟨rfl, h, t, rfl, hS, old⟩ := hr2
        repeat (any_goals (first | assumption | wp_step))
        exact q _ _ hS old
      | _ => exact hr2.elim
  | _ => exact hr.elim
end
section
variable {X : Cx}
theorem text_at : ∀ {xs : List Str} {vs : List Value}, Vals (xs.map V.str) vs → ∀ (i : Nat) (v : Value), vs[i]? = some v → ∃ h : i < xs.length, (strKind X.prog X.w).is xs[i] v = true ∧ v.scannable = true
  | [], _, .nil, i, v, h => by simp at h
  | x :: xs, _, .cons r _, 0, v, h => by
    obtain ⟨t, rfl⟩ := r
    obtain rfl : Value.str x t = v := Option.some.inj h
    exact ⟨Nat.succ_pos _, strKind_is _ _ _ _, rfl⟩
  | x :: xs, _, .cons _ t, i + 1, v, h => by
    obtain ⟨g, q⟩ := text_at t i v h
    exact ⟨Nat.succ_lt_succ g, q⟩
def tLenTexts (K : PySem.W.Frag) (ta : TE) : TE := fun σ H Q => ta σ H fun x H1 => ∃ (l : Addr) (xs : List Str), x = V.ref l ∧ SqL K H1 l (xs.map V.str) ∧ xs.Nodup ∧ xs.length < 64 ∧ Q (.int xs.length) H1
theorem pe_lenTexts {a : Expr} {ta : TE} {p p2 q pos : Pos} (calm : X.calm = true) (g1 : Gl X "len") (m1 : X.mg "len" = none) (g2 : Gl X "set") (m2 : X.mg "set" = none) (pa : PE X a ta)
    (each : starEach [a] X.env = (false, eval a X.env) :: starEach [] X.env := by rfl) : PE X (.Call (.Name "len" p) [.Call (.Name "set" p2) [a] [] q] [] pos) (tLenTexts X.K ta) := by
  refine ⟨fun pins s σ H Q I h => Call_ (ld_blt I g1 m1 boot_len (PyProof.Rows.callWith_builtin1 (PyProof.Rows.args_cons ?_ rfl) rfl rfl))⟩
  refine Call_ (ld_blt I g2 m2 boot_set (PyProof.Rows.callWith_type1 (PyProof.Rows.args_cons (thn (pa.run pins s σ H _ I h) fun v s1 ⟨x, H1, J, r, hx⟩ => PyProof.Rows.args_nil ?_) each) each rfl))
  obtain ⟨l, xs, rfl, sq, nd, few, hx⟩ := hx
  cases r
  obtain ⟨vs, rv, lv, _⟩ := J.list sq
  have sz : xs.length = vs.toArray.size := by rw [List.size_toArray, ← rv.length, List.length_map]
  refine set_of (kd := strKind X.prog X.w) (J.ok.hd calm) lv.isList sz nd (by unfold scanBound; omega) (fun i v e => text_at rv i v (by simpa using e)) fun h2 t hS old => PyProof.Rows.args_nil ?_
  obtain ⟨o, es, ep, tb, ho, ex, hd, _, _, _, fit, hn⟩ := hS
  rw [← sz] at hn
  exact call_len_set ho ex hd fit (by rw [hn]; omega) ⟨.int xs.length, H1, (J.kept fun b o e => old b o (Heap.lt_size e) e).tok _, ⟨_, by rw [hn]⟩, hx⟩
end
section
/-- sorted(d) of a dict whose keys are texts -/
def uSortD : List V → Hp → VK → Prop := fun xs H Q => ∃ (a : Addr) (kvs : List (Key × V)) (ks : List Str), xs = [.ref a] ∧ H a = some (.dK kvs) ∧ kvs.map (·.1) = ks.map Sum.inr ∧ ks.length < 64 ∧
  ∀ ys, ys.Perm ks → sortedS ys = true → Mk H (.lst (ys.map V.str)) Q
theorem call_uSortD {X : Cx} (hc : X.calm = true) : CallR X (.builtin "sorted") uSortD := by
  intro pins s σ H xs us Q I r h
  obtain ⟨a, kvs, ks, e, ha, hk, hl, q⟩ := h
  exact call_sortedD hc pins s σ H xs us Q I r ⟨a, kvs, ks, e, .inl ha, hk, hl, fun ys p h1 h2 n => q ys h1 h2 p _ n (Keep.new n) upd_same⟩
theorem lt_tri {a b : Str} (h1 : ltCps a.cps.toList b.cps.toList = false) (h2 : ltCps b.cps.toList a.cps.toList = false) : a = b := by
  rw [ltCps_eq, decide_eq_false_iff_not] at h1 h2
  have e : a.cps.toList = b.cps.toList := List.le_antisymm (List.not_lt.mp h2) (List.not_lt.mp h1)
  obtain ⟨a⟩ := a
  obtain ⟨b⟩ := b
  have e2 : a.toList = b.toList := e
  rw [Array.toList_inj.mp e2]
theorem rising_pw : ∀ (l : List Str) (p : Str), risingS p l = true → (p :: l).Pairwise fun a b => ltCps b.cps.toList a.cps.toList = false
  | [], p, _ => List.pairwise_singleton _ _
  | x :: l, p, h => by
    have h' : (!ltCps x.cps.toList p.cps.toList && risingS x l) = true := h
    rw [Bool.and_eq_true, Bool.not_eq_true'] at h'
    have ih := rising_pw l x h'.2
    refine List.pairwise_cons.mpr ⟨fun y hy => ?_, ih⟩
    rcases List.mem_cons.mp hy with rfl | hy
    · exact h'.1
    · have h2 := (List.pairwise_cons.mp ih).1 y hy
      have h1 := h'.1
      rw [ltCps_eq, decide_eq_false_iff_not] at h1 h2 ⊢
      exact List.not_lt.mpr (List.le_trans (List.not_lt.mp h1) (List.not_lt.mp h2))
theorem sort_pw : ∀ {l : List Str}, sortedS l = true → l.Pairwise fun a b => ltCps b.cps.toList a.cps.toList = false
  | [], _ => .nil
  | x :: l, h => rising_pw l x h
theorem sort_one {xs ys : List Str} (h1 : xs.Pairwise fun a b => ltCps b.cps.toList a.cps.toList = false) (h2 : sortedS ys = true) (p : ys.Perm xs) : ys = xs :=
  List.Perm.eq_of_pairwise (fun a b _ _ x y => lt_tri y x) (sort_pw h2) h1 p
end
end Wg

namespace Wg
open PySem PySem.Spec PyProof.Rows L2
def topS (i : Nat) : Stmt := PySem.Challenge.pw_wagoncalls_k47_whole_sent_as_promised.main.body.getD i (.Pass ⟨0, 0, 0, 0⟩)
/-! wagoncalls_k47_whole_sent_as_promised: the text and the derivations, written by gen.py -/
abbrev s_far_ : Stmt := topS 2
abbrev N_far : List Str := ["town", "chart", "now", "wagon", "place", "places", "begin", "moment", "minutes"]
theorem sc_far : FnScope N_far ["town", "chart", "now", "wagon", "place"] (defScope s_far_) := ⟨rfl, rfl, rfl, by decide +kernel, rfl, by decide +kernel, by decide +kernel⟩
def t_far_r1 (K : PySem.W.Frag) : TS :=
  tRet (tOp (uAdd K) (tCB uMax2 (tCons (tOp (rI0 fun i j => .int (i - j)) (tVar 7) (tVar 2)) (tCons (tC (.int 0)) (tNil)))) (tVar 8))
def t_far (K : PySem.W.Frag) : TS :=
  tSeq (tAsg (tOp (uIx K) (tVar 0) (tC (.int 0))) (gName 5)) (tSeq (tPar 6 7 (tCons (tOp (uIx K) (tVar 3) (tC (.int 3))) (tCons (tOp (uIx K) (tVar 3) (tC (.int 4))) (tNil)))) (tSeq (tAsg (tOp (uIx K) (tOp (uIx K) (tVar 1) (tIdx K (tVar 5) (tCons (tVar 4) (tNil)))) (tIdx K (tVar 5) (tCons (tVar 6) (tNil)))) (gName 8)) (tSeq (tIfS (tTest (tOp rIsN (tVar 8) (tC .non))) (tRet (tC .non)) (tNext)) (t_far_r1 K))))
theorem dv_far {P : Program} {w : World} {K : PySem.W.Frag} {mg : Str → Option Value} {b : Heap} {a : Addr} {d : FuncData} {sp : Sp} (F : Fn K mg "far" s_far_ a d ["town", "chart", "now", "wagon", "place"])
    (n_max : mg "max" = none)
    (len : ∀ vs H Q E, sp vs H Q E → vs.length = 5)
    (rd : ∀ vs H Q E, sp vs H Q E → run (t_far K) (start N_far vs) H Q) : Keeps P w K mg b CX0 2 a d ["town", "chart", "now", "wagon", "place"] sp := by
  refine keeps0 F.fn sc_far len fun cdv A o s H vs Q E hr h => ⟨t_far K, ?_, rd vs H Q E h⟩
  unfold t_far t_far_r1
  exact (pss_cons (ps_set (i := 5) sc_far.nd rfl (.inl rfl) (pe_ix ix_u (pv 0) pe_int (fun _ _ => rfl)))
  (pss_cons (ps_par (i := 6) (j := 7) rfl sc_far.nd rfl rfl (by decide) rfl rfl (pa_cons (pe_ix ix_u (pv 3) pe_int (fun _ _ => rfl)) (pa_cons (pe_ix ix_u (pv 3) pe_int (fun _ _ => rfl)) pa_nil)) (by rfl))
  (pss_cons (ps_set (i := 8) sc_far.nd rfl (.inl rfl) (pe_ix ix_u (pe_ix ix_u (pv 1) (pe_idx (pv 5) (pa_cons (pv 4) pa_nil)) (fun _ _ => rfl)) (pe_idx (pv 5) (pa_cons (pv 6) pa_nil)) (fun _ _ => rfl)))
  (pss_cons (ps_if (pt_cmpR op_isN (pv 8) pe_non (nomark _)) (pss_one (ps_ret pe_non)) pss_nil)
  (pss_one (ps_ret (pe_op op_uAdd (pe_callB (call_uMax2 rfl) (by rfl) n_max (by decide +kernel) (pa_cons (pe_op op_sub (pv 7) (pv 2)) (pa_cons pe_int pa_nil))) (pv 8))))))))

abbrev s_waiting_ : Stmt := topS 3
abbrev N_waiting : List Str := ["wagons", "calls", "served", "rows", "wagon", "row", "name", "place", "grade", "since"]
theorem sc_waiting : FnScope N_waiting ["wagons", "calls"] (defScope s_waiting_) := ⟨rfl, rfl, rfl, by decide +kernel, rfl, by decide +kernel, by decide +kernel⟩
def t_waiting (K : PySem.W.Frag) (a_FREE : Addr) : TS :=
  tSeq (tAsg (tLc (iU K (tVar 0)) (gName 4) (tTest (tOp (uEq K true) (tOp (uIx K) (tVar 4) (tC (.int 5))) (tC (.ref a_FREE)))) (tOp (uIx K) (tOp (uIx K) (tVar 4) (tC (.int 5))) (tC (.int 1))) [4]) (gName 2)) (tSeq (tAsg (tCB (uSorted K) (tCons (tLc (iU K (tVar 1)) (gTup K 4 (gCons (gName 6) (gCons (gName 7) (gCons (gName 8) (gCons (gName 9) (gNil)))))) (tTest (tOp (uIn K true) (tVar 6) (tVar 2))) (tTupU (tCons (tVar 8) (tCons (tVar 9) (tCons (tVar 6) (tNil))))) [6, 7, 8, 9]) (tNil))) (gName 3)) (tRet (tLc (iU K (tVar 3)) (gName 5) (tYes) (tOp (uIx K) (tVar 5) (tC (.int 2))) [5])))
theorem dv_waiting {P : Program} {w : World} {K : PySem.W.Frag} {mg : Str → Option Value} {b : Heap} {a : Addr} {d : FuncData} {sp : Sp} (F : Fn K mg "waiting" s_waiting_ a d ["wagons", "calls"])
    {a_FREE : Addr} (c_FREE : mg "FREE" = some (.ref a_FREE))
    (n_sorted : mg "sorted" = none)
    (len : ∀ vs H Q E, sp vs H Q E → vs.length = 2)
    (rd : ∀ vs H Q E, sp vs H Q E → run (t_waiting K a_FREE) (start N_waiting vs) H Q) : Keeps P w K mg b CX0 2 a d ["wagons", "calls"] sp := by
  refine keeps0 F.fn sc_waiting len fun cdv A o s H vs Q E hr h => ⟨t_waiting K a_FREE, ?_, rd vs H Q E h⟩
  unfold t_waiting 
  exact (pss_cons (ps_set (i := 2) sc_waiting.nd rfl (.inr rfl) (pe_lc (own := [("wagon", 4)]) rfl sc_waiting.nd (pi_u (pv 0)) (blkOk_by (own := [("wagon", 4)]) (N := N_waiting) (sc := defScope s_waiting_) (by decide +kernel)) (fun _ _ _ _ _ => (pg_name (i := 4) sc_waiting.nd rfl (.inl rfl))) (fun _ _ _ _ _ => (pts_one (pt_cmpR (op_uNe hr.rm.units) (pe_ix ix_u (pv 4) pe_int (fun _ _ => rfl)) (pe_glob rfl c_FREE rfl) (nomark _)))) (fun _ _ _ _ _ => (pe_ix ix_u (pe_ix ix_u (pv 4) pe_int (fun _ _ => rfl)) pe_int (fun _ _ => rfl)))))
  (pss_cons (ps_set (i := 3) sc_waiting.nd rfl (.inl rfl) (pe_callB (call_uSorted hr.rm.units) (by rfl) n_sorted (by decide +kernel) (pa_cons (pe_lc (own := [("name", 6), ("place", 7), ("grade", 8), ("since", 9)]) rfl sc_waiting.nd (pi_u (pv 1)) (blkOk_by (own := [("name", 6), ("place", 7), ("grade", 8), ("since", 9)]) (N := N_waiting) (sc := defScope s_waiting_) (by decide +kernel)) (fun _ _ _ _ _ => (pg_tup rfl (pgs_cons (pg_name (i := 6) sc_waiting.nd rfl (.inl rfl)) (pgs_cons (pg_name (i := 7) sc_waiting.nd rfl (.inl rfl)) (pgs_cons (pg_name (i := 8) sc_waiting.nd rfl (.inl rfl)) (pgs_cons (pg_name (i := 9) sc_waiting.nd rfl (.inl rfl)) pgs_nil)))))) (fun _ _ _ _ _ => (pts_one (pt_cmpR op_uNotIn (pv 6) (pv 2) rfl))) (fun _ _ _ _ _ => (pe_tupU (pa_cons (pv 8) (pa_cons (pv 9) (pa_cons (pv 6) pa_nil)))))) pa_nil)))
  (pss_one (ps_ret (pe_lc (own := [("row", 5)]) rfl sc_waiting.nd (pi_u (pv 3)) (blkOk_by (own := [("row", 5)]) (N := N_waiting) (sc := defScope s_waiting_) (by decide +kernel)) (fun _ _ _ _ _ => (pg_name (i := 5) sc_waiting.nd rfl (.inl rfl))) (fun _ _ _ _ _ => pts_nil) (fun _ _ _ _ _ => (pe_ix ix_u (pv 5) pe_int (fun _ _ => rfl))))))))

abbrev s_named_ : Stmt := topS 6
abbrev N_named : List Str := ["rows", "name", "row"]
theorem sc_named : FnScope N_named ["rows", "name"] (defScope s_named_) := ⟨rfl, rfl, rfl, by decide +kernel, rfl, by decide +kernel, by decide +kernel⟩
def t_named_b1 (K : PySem.W.Frag) : TS :=
  tIfS (tTest (tOp (uEq K false) (tOp (uIx K) (tVar 2) (tC (.int 0))) (tVar 1))) (tRet (tVar 2)) (tNext)
def t_named_r1 (K : PySem.W.Frag) : TS :=
  tRet (tC .non)
def t_named (K : PySem.W.Frag) : TS :=
  tSeq (tFor (iU K (tVar 0)) (gName 2) (t_named_b1 K)) (t_named_r1 K)
theorem dv_named {P : Program} {w : World} {K : PySem.W.Frag} {mg : Str → Option Value} {b : Heap} {a : Addr} {d : FuncData} {sp : Sp} (F : Fn K mg "named" s_named_ a d ["rows", "name"])
    (len : ∀ vs H Q E, sp vs H Q E → vs.length = 2)
    (rd : ∀ vs H Q E, sp vs H Q E → run (t_named K) (start N_named vs) H Q) : Keeps P w K mg b CX0 2 a d ["rows", "name"] sp := by
  refine keeps0 F.fn sc_named len fun cdv A o s H vs Q E hr h => ⟨t_named K, ?_, rd vs H Q E h⟩
  unfold t_named t_named_r1 t_named_b1
  exact (pss_cons (ps_for PassesOwn.never rfl (pi_u (pv 0)) (pg_name (i := 2) sc_named.nd rfl (.inl rfl)) (pss_one (ps_if (pt_cmpR (op_uEq hr.rm.units) (pe_ix ix_u (pv 2) pe_int (fun _ _ => rfl)) (pv 1) (nomark _)) (pss_one (ps_ret (pv 2))) pss_nil)))
  (pss_one (ps_ret pe_non)))

abbrev s_may_be_sent_ : Stmt := topS 4
abbrev N_may_be_sent : List Str := ["calls", "wagon", "name", "task"]
theorem sc_may_be_sent : FnScope N_may_be_sent ["calls", "wagon", "name"] (defScope s_may_be_sent_) := ⟨rfl, rfl, rfl, by decide +kernel, rfl, by decide +kernel, by decide +kernel⟩
def t_may_be_sent_r1 (K : PySem.W.Frag) (s_named : Sp) (a_FREE : Addr) : TS :=
  tRet (tAndT K (tOp (uEq K false) (tOp (uIx K) (tVar 3) (tC (.int 0))) (tC (.str "to"))) (tOp (rI0 fun i j => .bl (decide (j < i))) (tOp (uIx K) (tGo s_named E0 (tCons (tVar 0) (tCons (tOp (uIx K) (tVar 3) (tC (.int 1))) (tNil)))) (tC (.int 2))) (tOp (uIx K) (tGo s_named E0 (tCons (tVar 0) (tCons (tVar 2) (tNil)))) (tC (.int 2)))))
def t_may_be_sent (K : PySem.W.Frag) (s_named : Sp) (a_FREE : Addr) : TS :=
  tSeq (tAsg (tOp (uIx K) (tVar 1) (tC (.int 5))) (gName 3)) (tSeq (tIfS (tTest (tOp (uEq K false) (tVar 3) (tC (.ref a_FREE)))) (tRet (tC (.bl true))) (tNext)) (t_may_be_sent_r1 K s_named a_FREE))
theorem dv_may_be_sent {P : Program} {w : World} {K : PySem.W.Frag} {mg : Str → Option Value} {b : Heap} {a : Addr} {d : FuncData} {sp : Sp} (F : Fn K mg "may_be_sent" s_may_be_sent_ a d ["calls", "wagon", "name"])
    {a_FREE : Addr} (c_FREE : mg "FREE" = some (.ref a_FREE))
    {a_named : Addr} {d_named : FuncData} {s_named : Sp} (F_named : Fn K mg "named" s_named_ a_named d_named ["rows", "name"]) (k_named : Keeps P w K mg b CX0 2 a_named d_named ["rows", "name"] s_named)
    (len : ∀ vs H Q E, sp vs H Q E → vs.length = 3)
    (rd : ∀ vs H Q E, sp vs H Q E → run (t_may_be_sent K s_named a_FREE) (start N_may_be_sent vs) H Q) : Keeps P w K mg b CX0 3 a d ["calls", "wagon", "name"] sp := by
  refine keeps0 F.fn sc_may_be_sent len fun cdv A o s H vs Q E hr h => ⟨t_may_be_sent K s_named a_FREE, ?_, rd vs H Q E h⟩
  unfold t_may_be_sent t_may_be_sent_r1
  exact (pss_cons (ps_set (i := 3) sc_may_be_sent.nd rfl (.inl rfl) (pe_ix ix_u (pv 1) pe_int (fun _ _ => rfl)))
  (pss_cons (ps_if (pt_cmpR (op_uEq hr.rm.units) (pv 3) (pe_glob rfl c_FREE rfl) (nomark _)) (pss_one (ps_ret pe_bl)) pss_nil)
  (pss_one (ps_ret (pe_andT (pe_cmpR (op_uEq hr.rm.units) (pe_ix ix_u (pv 3) pe_int (fun _ _ => rfl)) pe_str (nomark _)) (pe_one (pe_cmpR op_gt (pe_ix ix_u (pe_go k_named (hr.mono (by decide)) rfl F_named.g F_named.fn.kp F_named.b pass0 (pa_cons (pv 0) (pa_cons (pe_ix ix_u (pv 3) pe_int (fun _ _ => rfl)) pa_nil))) pe_int (fun _ _ => rfl)) (pe_ix ix_u (pe_go k_named (hr.mono (by decide)) rfl F_named.g F_named.fn.kp F_named.b pass0 (pa_cons (pv 0) (pa_cons (pv 2) pa_nil))) pe_int (fun _ _ => rfl)) (nomark _))))))))

abbrev s_chosen_ : Stmt := topS 5
abbrev N_chosen : List Str := ["town", "chart", "now", "wagons", "calls", "name", "place", "found", "wagon", "minutes"]
theorem sc_chosen : FnScope N_chosen ["town", "chart", "now", "wagons", "calls", "name"] (defScope s_chosen_) := ⟨rfl, rfl, rfl, by decide +kernel, rfl, by decide +kernel, by decide +kernel⟩
def t_chosen_b1 (K : PySem.W.Frag) (s_named : Sp) (s_may_be_sent : Sp) (s_far : Sp) (a_FREE : Addr) : TS :=
  tIfS (tTru K (tGo s_may_be_sent E0 (tCons (tVar 4) (tCons (tVar 8) (tCons (tVar 5) (tNil)))))) (tSeq (tAsg (tGo s_far E0 (tCons (tVar 0) (tCons (tVar 1) (tCons (tVar 2) (tCons (tVar 8) (tCons (tVar 6) (tNil))))))) (gName 9)) (tIfS (tTest (tOp rNotN (tVar 9) (tC .non))) (tDrop (tBM K "list" uAppend (tVar 7) (tCons (tTupU (tCons (tVar 9) (tCons (tIf (tTest (tOp (uEq K false) (tOp (uIx K) (tVar 8) (tC (.int 5))) (tC (.ref a_FREE)))) (tC (.int 0)) (tC (.int 1))) (tCons (tOp (uIx K) (tVar 8) (tC (.int 0))) (tNil))))) (tNil)))) (tNext))) (tNext)
def t_chosen_r1 (K : PySem.W.Frag) (s_named : Sp) (s_may_be_sent : Sp) (s_far : Sp) (a_FREE : Addr) : TS :=
  tRet (tIf (tTru K (tVar 7)) (tOp (uIx K) (tCB (uMinD K) (tCons (tVar 7) (tNil))) (tC (.int 2))) (tC .non))
def t_chosen (K : PySem.W.Frag) (s_named : Sp) (s_may_be_sent : Sp) (s_far : Sp) (a_FREE : Addr) : TS :=
  tSeq (tAsg (tOp (uIx K) (tGo s_named E0 (tCons (tVar 4) (tCons (tVar 5) (tNil)))) (tC (.int 1))) (gName 6)) (tSeq (tAsg (tLstU (tNil)) (gName 7)) (tSeq (tFor (iU K (tVar 3)) (gName 8) (t_chosen_b1 K s_named s_may_be_sent s_far a_FREE)) (t_chosen_r1 K s_named s_may_be_sent s_far a_FREE)))
theorem dv_chosen {P : Program} {w : World} {K : PySem.W.Frag} {mg : Str → Option Value} {b : Heap} {a : Addr} {d : FuncData} {sp : Sp} (F : Fn K mg "chosen" s_chosen_ a d ["town", "chart", "now", "wagons", "calls", "name"])
    {a_named : Addr} {d_named : FuncData} {s_named : Sp} (F_named : Fn K mg "named" s_named_ a_named d_named ["rows", "name"]) (k_named : Keeps P w K mg b CX0 2 a_named d_named ["rows", "name"] s_named)
    {a_may_be_sent : Addr} {d_may_be_sent : FuncData} {s_may_be_sent : Sp} (F_may_be_sent : Fn K mg "may_be_sent" s_may_be_sent_ a_may_be_sent d_may_be_sent ["calls", "wagon", "name"]) (k_may_be_sent : Keeps P w K mg b CX0 3 a_may_be_sent d_may_be_sent ["calls", "wagon", "name"] s_may_be_sent)
    {a_far : Addr} {d_far : FuncData} {s_far : Sp} (F_far : Fn K mg "far" s_far_ a_far d_far ["town", "chart", "now", "wagon", "place"]) (k_far : Keeps P w K mg b CX0 2 a_far d_far ["town", "chart", "now", "wagon", "place"] s_far)
    {a_FREE : Addr} (c_FREE : mg "FREE" = some (.ref a_FREE))
    (n_min : mg "min" = none)
    (len : ∀ vs H Q E, sp vs H Q E → vs.length = 6)
    (rd : ∀ vs H Q E, sp vs H Q E → run (t_chosen K s_named s_may_be_sent s_far a_FREE) (start N_chosen vs) H Q) : Keeps P w K mg b CX0 4 a d ["town", "chart", "now", "wagons", "calls", "name"] sp := by
  refine keeps0 F.fn sc_chosen len fun cdv A o s H vs Q E hr h => ⟨t_chosen K s_named s_may_be_sent s_far a_FREE, ?_, rd vs H Q E h⟩
  unfold t_chosen t_chosen_r1 t_chosen_b1
  exact (pss_cons (ps_set (i := 6) sc_chosen.nd rfl (.inl rfl) (pe_ix ix_u (pe_go k_named (hr.mono (by decide)) rfl F_named.g F_named.fn.kp F_named.b pass0 (pa_cons (pv 4) (pa_cons (pv 5) pa_nil))) pe_int (fun _ _ => rfl)))
  (pss_cons (ps_set (i := 7) sc_chosen.nd rfl (.inl rfl) (pe_lstU pa_nil))
  (pss_cons (ps_for PassesOwn.never rfl (pi_u (pv 3)) (pg_name (i := 8) sc_chosen.nd rfl (.inl rfl)) (pss_one (ps_if (pt_tru (pe_go k_may_be_sent (hr.mono (by decide)) rfl F_may_be_sent.g F_may_be_sent.fn.kp F_may_be_sent.b pass0 (pa_cons (pv 4) (pa_cons (pv 8) (pa_cons (pv 5) pa_nil))))) (pss_cons (ps_set (i := 9) sc_chosen.nd rfl (.inl rfl) (pe_go k_far (hr.mono (by decide)) rfl F_far.g F_far.fn.kp F_far.b pass0 (pa_cons (pv 0) (pa_cons (pv 1) (pa_cons (pv 2) (pa_cons (pv 8) (pa_cons (pv 6) pa_nil)))))))
  (pss_one (ps_if (pt_cmpR op_notN (pv 9) pe_non (nomark _)) (pss_one (ps_expr (pe_bm PySem.F.plainAttrs_list PySem.F.slot_list_append PySem.F.type_list_append mt_uAppend (pv 7) (pa_cons (pe_tupU (pa_cons (pv 9) (pa_cons (pe_ifExp (pt_cmpR (op_uEq hr.rm.units) (pe_ix ix_u (pv 8) pe_int (fun _ _ => rfl)) (pe_glob rfl c_FREE rfl) (nomark _)) pe_int pe_int) (pa_cons (pe_ix ix_u (pv 8) pe_int (fun _ _ => rfl)) pa_nil)))) pa_nil)))) pss_nil))) pss_nil)))
  (pss_one (ps_ret (pe_ifExp (pt_tru (pv 7)) (pe_ix ix_u (pe_callB (call_uMinD rfl hr.rm.units) (by rfl) n_min (by decide +kernel) (pa_cons (pv 7) pa_nil)) pe_int (fun _ _ => rfl)) pe_non))))))

abbrev s_freed_ : Stmt := topS 7
abbrev N_freed : List Str := ["wagon", "name", "home", "_", "place", "moment"]
theorem sc_freed : FnScope N_freed ["wagon"] (defScope s_freed_) := ⟨rfl, rfl, rfl, by decide +kernel, rfl, by decide +kernel, by decide +kernel⟩
def t_freed (K : PySem.W.Frag) (a_FREE : Addr) : TS :=
  tSeq (tAsg (tVar 0) (gTup K 6 (gCons (gName 1) (gCons (gName 2) (gCons (gName 3) (gCons (gName 4) (gCons (gName 5) (gCons (gName 3) (gNil))))))))) (tRet (tTupU (tCons (tVar 1) (tCons (tVar 2) (tCons (tVar 2) (tCons (tVar 4) (tCons (tVar 5) (tCons (tC (.ref a_FREE)) (tNil)))))))))
theorem dv_freed {P : Program} {w : World} {K : PySem.W.Frag} {mg : Str → Option Value} {b : Heap} {a : Addr} {d : FuncData} {sp : Sp} (F : Fn K mg "freed" s_freed_ a d ["wagon"])
    {a_FREE : Addr} (c_FREE : mg "FREE" = some (.ref a_FREE))
    (len : ∀ vs H Q E, sp vs H Q E → vs.length = 1)
    (rd : ∀ vs H Q E, sp vs H Q E → run (t_freed K a_FREE) (start N_freed vs) H Q) : Keeps P w K mg b CX0 2 a d ["wagon"] sp := by
  refine keeps0 F.fn sc_freed len fun cdv A o s H vs Q E hr h => ⟨t_freed K a_FREE, ?_, rd vs H Q E h⟩
  unfold t_freed 
  exact (pss_cons (ps_asg (pv 0) (pg_tup rfl (pgs_cons (pg_name (i := 1) sc_freed.nd rfl (.inl rfl)) (pgs_cons (pg_name (i := 2) sc_freed.nd rfl (.inl rfl)) (pgs_cons (pg_name (i := 3) sc_freed.nd rfl (.inl rfl)) (pgs_cons (pg_name (i := 4) sc_freed.nd rfl (.inl rfl)) (pgs_cons (pg_name (i := 5) sc_freed.nd rfl (.inl rfl)) (pgs_cons (pg_name (i := 3) sc_freed.nd rfl (.inl rfl)) pgs_nil))))))))
  (pss_one (ps_ret (pe_tupU (pa_cons (pv 1) (pa_cons (pv 2) (pa_cons (pv 2) (pa_cons (pv 4) (pa_cons (pv 5) (pa_cons (pe_glob rfl c_FREE rfl) pa_nil))))))))))

abbrev s_with_task_ : Stmt := topS 8
abbrev N_with_task : List Str := ["wagon", "task"]
theorem sc_with_task : FnScope N_with_task ["wagon", "task"] (defScope s_with_task_) := ⟨rfl, rfl, rfl, by decide +kernel, rfl, by decide +kernel, by decide +kernel⟩
def t_with_task (K : PySem.W.Frag) : TS :=
  tRet (tOp (uAdd K) (tSl (uSl K) (tVar 0) (tNoPart) (tPart (tC (.int 5)))) (tTupU (tCons (tVar 1) (tNil))))
theorem dv_with_task {P : Program} {w : World} {K : PySem.W.Frag} {mg : Str → Option Value} {b : Heap} {a : Addr} {d : FuncData} {sp : Sp} (F : Fn K mg "with_task" s_with_task_ a d ["wagon", "task"])
    (len : ∀ vs H Q E, sp vs H Q E → vs.length = 2)
    (rd : ∀ vs H Q E, sp vs H Q E → run (t_with_task K) (start N_with_task vs) H Q) : Keeps P w K mg b CX0 2 a d ["wagon", "task"] sp := by
  refine keeps0 F.fn sc_with_task len fun cdv A o s H vs Q E hr h => ⟨t_with_task K, ?_, rd vs H Q E h⟩
  unfold t_with_task 
  exact (pss_one (ps_ret (pe_op op_uAdd (pe_slice sl_u (pv 0) po_none (po_some pe_int)) (pe_tupU (pa_cons (pv 1) pa_nil)))))

abbrev s__is_cut_off_ : Stmt := topS 12
abbrev N__is_cut_off : List Str := ["town", "chart", "wagon", "calls", "place"]
theorem sc__is_cut_off : FnScope N__is_cut_off ["town", "chart", "wagon", "calls"] (defScope s__is_cut_off_) := ⟨rfl, rfl, rfl, by decide +kernel, rfl, by decide +kernel, by decide +kernel⟩
def t__is_cut_off_r1 (K : PySem.W.Frag) (s_named : Sp) (s_far : Sp) : TS :=
  tSeq (tAsg (tOp (uIx K) (tGo s_named E0 (tCons (tVar 3) (tCons (tOp (uIx K) (tOp (uIx K) (tVar 2) (tC (.int 5))) (tC (.int 1))) (tNil)))) (tC (.int 1))) (gName 4)) (tRet (tOp rIsN (tGo s_far E0 (tCons (tVar 0) (tCons (tVar 1) (tCons (tC (.int 0)) (tCons (tVar 2) (tCons (tVar 4) (tNil))))))) (tC .non)))
def t__is_cut_off (K : PySem.W.Frag) (s_named : Sp) (s_far : Sp) : TS :=
  tSeq (tIfS (tTest (tOp (uEq K true) (tOp (uIx K) (tOp (uIx K) (tVar 2) (tC (.int 5))) (tC (.int 0))) (tC (.str "to")))) (tRet (tC (.bl false))) (tNext)) (t__is_cut_off_r1 K s_named s_far)
theorem dv__is_cut_off {P : Program} {w : World} {K : PySem.W.Frag} {mg : Str → Option Value} {b : Heap} {a : Addr} {d : FuncData} {sp : Sp} (F : Fn K mg "_is_cut_off" s__is_cut_off_ a d ["town", "chart", "wagon", "calls"])
    {a_named : Addr} {d_named : FuncData} {s_named : Sp} (F_named : Fn K mg "named" s_named_ a_named d_named ["rows", "name"]) (k_named : Keeps P w K mg b CX0 2 a_named d_named ["rows", "name"] s_named)
    {a_far : Addr} {d_far : FuncData} {s_far : Sp} (F_far : Fn K mg "far" s_far_ a_far d_far ["town", "chart", "now", "wagon", "place"]) (k_far : Keeps P w K mg b CX0 2 a_far d_far ["town", "chart", "now", "wagon", "place"] s_far)
    (len : ∀ vs H Q E, sp vs H Q E → vs.length = 4)
    (rd : ∀ vs H Q E, sp vs H Q E → run (t__is_cut_off K s_named s_far) (start N__is_cut_off vs) H Q) : Keeps P w K mg b CX0 3 a d ["town", "chart", "wagon", "calls"] sp := by
  refine keeps0 F.fn sc__is_cut_off len fun cdv A o s H vs Q E hr h => ⟨t__is_cut_off K s_named s_far, ?_, rd vs H Q E h⟩
  unfold t__is_cut_off t__is_cut_off_r1
  exact (pss_cons (ps_if (pt_cmpR (op_uNe hr.rm.units) (pe_ix ix_u (pe_ix ix_u (pv 2) pe_int (fun _ _ => rfl)) pe_int (fun _ _ => rfl)) pe_str (nomark _)) (pss_one (ps_ret pe_bl)) pss_nil)
  (pss_cons (ps_set (i := 4) sc__is_cut_off.nd rfl (.inl rfl) (pe_ix ix_u (pe_go k_named (hr.mono (by decide)) rfl F_named.g F_named.fn.kp F_named.b pass0 (pa_cons (pv 3) (pa_cons (pe_ix ix_u (pe_ix ix_u (pv 2) pe_int (fun _ _ => rfl)) pe_int (fun _ _ => rfl)) pa_nil))) pe_int (fun _ _ => rfl)))
  (pss_one (ps_ret (pe_cmpR op_isN (pe_go k_far (hr.mono (by decide)) rfl F_far.g F_far.fn.kp F_far.b pass0 (pa_cons (pv 0) (pa_cons (pv 1) (pa_cons pe_int (pa_cons (pv 2) (pa_cons (pv 4) pa_nil)))))) pe_non (nomark _))))))

abbrev s_cut_off_ : Stmt := topS 10
abbrev N_cut_off : List Str := ["town", "chart", "wagons", "calls", "cut", "behind", "wagon"]
theorem sc_cut_off : FnScope N_cut_off ["town", "chart", "wagons", "calls"] (defScope s_cut_off_) := ⟨rfl, rfl, rfl, by decide +kernel, rfl, by decide +kernel, by decide +kernel⟩
def t_cut_off_b1 (K : PySem.W.Frag) (s__is_cut_off : Sp) (s_freed : Sp) : TS :=
  tIfS (tTru K (tGo s__is_cut_off E0 (tCons (tVar 0) (tCons (tVar 1) (tCons (tVar 6) (tCons (tVar 3) (tNil))))))) (tSeq (tDrop (tBM K "list" uAppend (tVar 4) (tCons (tTupU (tCons (tOp (uIx K) (tVar 6) (tC (.int 0))) (tCons (tOp (uIx K) (tOp (uIx K) (tVar 6) (tC (.int 5))) (tC (.int 1))) (tNil)))) (tNil)))) (tDrop (tBM K "list" uAppend (tVar 5) (tCons (tGo s_freed E0 (tCons (tVar 6) (tNil))) (tNil))))) (tDrop (tBM K "list" uAppend (tVar 5) (tCons (tVar 6) (tNil))))
def t_cut_off_r1 (K : PySem.W.Frag) (s__is_cut_off : Sp) (s_freed : Sp) : TS :=
  tRet (tTupU (tCons (tVar 4) (tCons (tVar 5) (tNil))))
def t_cut_off (K : PySem.W.Frag) (s__is_cut_off : Sp) (s_freed : Sp) : TS :=
  tSeq (tAsg (tLstU (tNil)) (gName 4)) (tSeq (tAsg (tLstU (tNil)) (gName 5)) (tSeq (tFor (iU K (tVar 2)) (gName 6) (t_cut_off_b1 K s__is_cut_off s_freed)) (t_cut_off_r1 K s__is_cut_off s_freed)))
theorem dv_cut_off {P : Program} {w : World} {K : PySem.W.Frag} {mg : Str → Option Value} {b : Heap} {a : Addr} {d : FuncData} {sp : Sp} (F : Fn K mg "cut_off" s_cut_off_ a d ["town", "chart", "wagons", "calls"])
    {a__is_cut_off : Addr} {d__is_cut_off : FuncData} {s__is_cut_off : Sp} (F__is_cut_off : Fn K mg "_is_cut_off" s__is_cut_off_ a__is_cut_off d__is_cut_off ["town", "chart", "wagon", "calls"]) (k__is_cut_off : Keeps P w K mg b CX0 3 a__is_cut_off d__is_cut_off ["town", "chart", "wagon", "calls"] s__is_cut_off)
    {a_freed : Addr} {d_freed : FuncData} {s_freed : Sp} (F_freed : Fn K mg "freed" s_freed_ a_freed d_freed ["wagon"]) (k_freed : Keeps P w K mg b CX0 2 a_freed d_freed ["wagon"] s_freed)
    (len : ∀ vs H Q E, sp vs H Q E → vs.length = 4)
    (rd : ∀ vs H Q E, sp vs H Q E → run (t_cut_off K s__is_cut_off s_freed) (start N_cut_off vs) H Q) : Keeps P w K mg b CX0 4 a d ["town", "chart", "wagons", "calls"] sp := by
  refine keeps0 F.fn sc_cut_off len fun cdv A o s H vs Q E hr h => ⟨t_cut_off K s__is_cut_off s_freed, ?_, rd vs H Q E h⟩
  unfold t_cut_off t_cut_off_r1 t_cut_off_b1
  exact (pss_cons (ps_set (i := 4) sc_cut_off.nd rfl (.inl rfl) (pe_lstU pa_nil))
  (pss_cons (ps_set (i := 5) sc_cut_off.nd rfl (.inl rfl) (pe_lstU pa_nil))
  (pss_cons (ps_for PassesOwn.never rfl (pi_u (pv 2)) (pg_name (i := 6) sc_cut_off.nd rfl (.inl rfl)) (pss_one (ps_if (pt_tru (pe_go k__is_cut_off (hr.mono (by decide)) rfl F__is_cut_off.g F__is_cut_off.fn.kp F__is_cut_off.b pass0 (pa_cons (pv 0) (pa_cons (pv 1) (pa_cons (pv 6) (pa_cons (pv 3) pa_nil)))))) (pss_cons (ps_expr (pe_bm PySem.F.plainAttrs_list PySem.F.slot_list_append PySem.F.type_list_append mt_uAppend (pv 4) (pa_cons (pe_tupU (pa_cons (pe_ix ix_u (pv 6) pe_int (fun _ _ => rfl)) (pa_cons (pe_ix ix_u (pe_ix ix_u (pv 6) pe_int (fun _ _ => rfl)) pe_int (fun _ _ => rfl)) pa_nil))) pa_nil)))
  (pss_one (ps_expr (pe_bm PySem.F.plainAttrs_list PySem.F.slot_list_append PySem.F.type_list_append mt_uAppend (pv 5) (pa_cons (pe_go k_freed (hr.mono (by decide)) rfl F_freed.g F_freed.fn.kp F_freed.b pass0 (pa_cons (pv 6) pa_nil)) pa_nil))))) (pss_one (ps_expr (pe_bm PySem.F.plainAttrs_list PySem.F.slot_list_append PySem.F.type_list_append mt_uAppend (pv 5) (pa_cons (pv 6) pa_nil)))))))
  (pss_one (ps_ret (pe_tupU (pa_cons (pv 4) (pa_cons (pv 5) pa_nil))))))))

abbrev s__next_call_ : Stmt := topS 13
abbrev N__next_call : List Str := ["wagons", "calls", "looked_at", "name"]
theorem sc__next_call : FnScope N__next_call ["wagons", "calls", "looked_at"] (defScope s__next_call_) := ⟨rfl, rfl, rfl, by decide +kernel, rfl, by decide +kernel, by decide +kernel⟩
def t__next_call_b1 (K : PySem.W.Frag) (s_waiting : Sp) : TS :=
  tIfS (tTest (tOp (uIn K true) (tVar 3) (tVar 2))) (tRet (tVar 3)) (tNext)
def t__next_call_r1 (K : PySem.W.Frag) (s_waiting : Sp) : TS :=
  tRet (tC .non)
def t__next_call (K : PySem.W.Frag) (s_waiting : Sp) : TS :=
  tSeq (tFor (iU K (tGo s_waiting E0 (tCons (tVar 0) (tCons (tVar 1) (tNil))))) (gName 3) (t__next_call_b1 K s_waiting)) (t__next_call_r1 K s_waiting)
theorem dv__next_call {P : Program} {w : World} {K : PySem.W.Frag} {mg : Str → Option Value} {b : Heap} {a : Addr} {d : FuncData} {sp : Sp} (F : Fn K mg "_next_call" s__next_call_ a d ["wagons", "calls", "looked_at"])
    {a_waiting : Addr} {d_waiting : FuncData} {s_waiting : Sp} (F_waiting : Fn K mg "waiting" s_waiting_ a_waiting d_waiting ["wagons", "calls"]) (k_waiting : Keeps P w K mg b CX0 2 a_waiting d_waiting ["wagons", "calls"] s_waiting)
    (len : ∀ vs H Q E, sp vs H Q E → vs.length = 3)
    (rd : ∀ vs H Q E, sp vs H Q E → run (t__next_call K s_waiting) (start N__next_call vs) H Q) : Keeps P w K mg b CX0 3 a d ["wagons", "calls", "looked_at"] sp := by
  refine keeps0 F.fn sc__next_call len fun cdv A o s H vs Q E hr h => ⟨t__next_call K s_waiting, ?_, rd vs H Q E h⟩
  unfold t__next_call t__next_call_r1 t__next_call_b1
  exact (pss_cons (ps_for PassesOwn.never rfl (pi_u (pe_go k_waiting (hr.mono (by decide)) rfl F_waiting.g F_waiting.fn.kp F_waiting.b pass0 (pa_cons (pv 0) (pa_cons (pv 1) pa_nil)))) (pg_name (i := 3) sc__next_call.nd rfl (.inl rfl)) (pss_one (ps_if (pt_cmpR op_uNotIn (pv 3) (pv 2) rfl) (pss_one (ps_ret (pv 3))) pss_nil)))
  (pss_one (ps_ret pe_non)))

abbrev s__call_of_ : Stmt := topS 14
abbrev N__call_of : List Str := ["wagons", "name", "task"]
theorem sc__call_of : FnScope N__call_of ["wagons", "name"] (defScope s__call_of_) := ⟨rfl, rfl, rfl, by decide +kernel, rfl, by decide +kernel, by decide +kernel⟩
def t__call_of (K : PySem.W.Frag) (s_named : Sp) (a_FREE : Addr) : TS :=
  tSeq (tAsg (tOp (uIx K) (tGo s_named E0 (tCons (tVar 0) (tCons (tVar 1) (tNil)))) (tC (.int 5))) (gName 2)) (tRet (tIf (tTest (tOp (uEq K false) (tVar 2) (tC (.ref a_FREE)))) (tC .non) (tOp (uIx K) (tVar 2) (tC (.int 1)))))
theorem dv__call_of {P : Program} {w : World} {K : PySem.W.Frag} {mg : Str → Option Value} {b : Heap} {a : Addr} {d : FuncData} {sp : Sp} (F : Fn K mg "_call_of" s__call_of_ a d ["wagons", "name"])
    {a_named : Addr} {d_named : FuncData} {s_named : Sp} (F_named : Fn K mg "named" s_named_ a_named d_named ["rows", "name"]) (k_named : Keeps P w K mg b CX0 2 a_named d_named ["rows", "name"] s_named)
    {a_FREE : Addr} (c_FREE : mg "FREE" = some (.ref a_FREE))
    (len : ∀ vs H Q E, sp vs H Q E → vs.length = 2)
    (rd : ∀ vs H Q E, sp vs H Q E → run (t__call_of K s_named a_FREE) (start N__call_of vs) H Q) : Keeps P w K mg b CX0 3 a d ["wagons", "name"] sp := by
  refine keeps0 F.fn sc__call_of len fun cdv A o s H vs Q E hr h => ⟨t__call_of K s_named a_FREE, ?_, rd vs H Q E h⟩
  unfold t__call_of 
  exact (pss_cons (ps_set (i := 2) sc__call_of.nd rfl (.inl rfl) (pe_ix ix_u (pe_go k_named (hr.mono (by decide)) rfl F_named.g F_named.fn.kp F_named.b pass0 (pa_cons (pv 0) (pa_cons (pv 1) pa_nil))) pe_int (fun _ _ => rfl)))
  (pss_one (ps_ret (pe_ifExp (pt_cmpR (op_uEq hr.rm.units) (pv 2) (pe_glob rfl c_FREE rfl) (nomark _)) pe_non (pe_ix ix_u (pv 2) pe_int (fun _ _ => rfl))))))

abbrev s_sendings_ : Stmt := topS 11
abbrev N_sendings : List Str := ["town", "chart", "now", "wagons", "calls", "sent", "behind", "looked_at", "name", "wagon", "row"]
theorem sc_sendings : FnScope N_sendings ["town", "chart", "now", "wagons", "calls"] (defScope s_sendings_) := ⟨rfl, rfl, rfl, by decide +kernel, rfl, by decide +kernel, by decide +kernel⟩
def t_sendings_r1 (K : PySem.W.Frag) (s__next_call : Sp) (s_chosen : Sp) (s__call_of : Sp) (s_with_task : Sp) : TS :=
  tAsg (tGo s__next_call E0 (tCons (tVar 6) (tCons (tVar 4) (tCons (tVar 7) (tNil))))) (gName 8)
def t_sendings_r2 (K : PySem.W.Frag) (s__next_call : Sp) (s_chosen : Sp) (s__call_of : Sp) (s_with_task : Sp) : TS :=
  tRet (tTupU (tCons (tVar 5) (tCons (tVar 6) (tNil))))
def t_sendings (K : PySem.W.Frag) (s__next_call : Sp) (s_chosen : Sp) (s__call_of : Sp) (s_with_task : Sp) : TS :=
  tSeq (tAsg (tLstU (tNil)) (gName 5)) (tSeq (tAsg (tCB (uList K) (tCons (tVar 3) (tNil))) (gName 6)) (tSeq (tAsg (tLstU (tNil)) (gName 7)) (tSeq (tAsg (tGo s__next_call E0 (tCons (tVar 6) (tCons (tVar 4) (tCons (tVar 7) (tNil))))) (gName 8)) (tSeq (tWhile (tTest (tOp rNotN (tVar 8) (tC .non))) (tSeq (tDrop (tBM K "list" uAppend (tVar 7) (tCons (tVar 8) (tNil)))) (tSeq (tAsg (tGo s_chosen E0 (tCons (tVar 0) (tCons (tVar 1) (tCons (tVar 2) (tCons (tVar 6) (tCons (tVar 4) (tCons (tVar 8) (tNil)))))))) (gName 9)) (tSeq (tIfS (tTest (tOp rNotN (tVar 9) (tC .non))) (tSeq (tDrop (tBM K "list" uAppend (tVar 5) (tCons (tTupU (tCons (tVar 8) (tCons (tVar 9) (tCons (tGo s__call_of E0 (tCons (tVar 6) (tCons (tVar 9) (tNil)))) (tNil))))) (tNil)))) (tAsg (tLc (iU K (tVar 6)) (gName 10) (tYes) (tIf (tTest (tOp (uEq K false) (tOp (uIx K) (tVar 10) (tC (.int 0))) (tVar 9))) (tGo s_with_task E0 (tCons (tVar 10) (tCons (tTupU (tCons (tC (.str "to")) (tCons (tVar 8) (tNil)))) (tNil)))) (tVar 10)) [10]) (gName 6))) (tNext)) (t_sendings_r1 K s__next_call s_chosen s__call_of s_with_task))))) (t_sendings_r2 K s__next_call s_chosen s__call_of s_with_task)))))
theorem dv_sendings {P : Program} {w : World} {K : PySem.W.Frag} {mg : Str → Option Value} {b : Heap} {a : Addr} {d : FuncData} {sp : Sp} (F : Fn K mg "sendings" s_sendings_ a d ["town", "chart", "now", "wagons", "calls"])
    (n_list : mg "list" = none)
    {a__next_call : Addr} {d__next_call : FuncData} {s__next_call : Sp} (F__next_call : Fn K mg "_next_call" s__next_call_ a__next_call d__next_call ["wagons", "calls", "looked_at"]) (k__next_call : Keeps P w K mg b CX0 3 a__next_call d__next_call ["wagons", "calls", "looked_at"] s__next_call)
    {a_chosen : Addr} {d_chosen : FuncData} {s_chosen : Sp} (F_chosen : Fn K mg "chosen" s_chosen_ a_chosen d_chosen ["town", "chart", "now", "wagons", "calls", "name"]) (k_chosen : Keeps P w K mg b CX0 4 a_chosen d_chosen ["town", "chart", "now", "wagons", "calls", "name"] s_chosen)
    {a__call_of : Addr} {d__call_of : FuncData} {s__call_of : Sp} (F__call_of : Fn K mg "_call_of" s__call_of_ a__call_of d__call_of ["wagons", "name"]) (k__call_of : Keeps P w K mg b CX0 3 a__call_of d__call_of ["wagons", "name"] s__call_of)
    {a_with_task : Addr} {d_with_task : FuncData} {s_with_task : Sp} (F_with_task : Fn K mg "with_task" s_with_task_ a_with_task d_with_task ["wagon", "task"]) (k_with_task : Keeps P w K mg b CX0 2 a_with_task d_with_task ["wagon", "task"] s_with_task)
    (len : ∀ vs H Q E, sp vs H Q E → vs.length = 5)
    (rd : ∀ vs H Q E, sp vs H Q E → run (t_sendings K s__next_call s_chosen s__call_of s_with_task) (start N_sendings vs) H Q) : Keeps P w K mg b CX0 5 a d ["town", "chart", "now", "wagons", "calls"] sp := by
  refine keeps0 F.fn sc_sendings len fun cdv A o s H vs Q E hr h => ⟨t_sendings K s__next_call s_chosen s__call_of s_with_task, ?_, rd vs H Q E h⟩
  unfold t_sendings t_sendings_r2 t_sendings_r1
  exact (pss_cons (ps_set (i := 5) sc_sendings.nd rfl (.inl rfl) (pe_lstU pa_nil))
  (pss_cons (ps_set (i := 6) sc_sendings.nd rfl (.inl rfl) (pe_callTy call_uList (by rfl) n_list (by decide +kernel) (pa_cons (pv 3) pa_nil)))
  (pss_cons (ps_set (i := 7) sc_sendings.nd rfl (.inl rfl) (pe_lstU pa_nil))
  (pss_cons (ps_set (i := 8) sc_sendings.nd rfl (.inr rfl) (pe_go k__next_call (hr.mono (by decide)) rfl F__next_call.g F__next_call.fn.kp F__next_call.b pass0 (pa_cons (pv 6) (pa_cons (pv 4) (pa_cons (pv 7) pa_nil)))))
  (pss_cons (ps_while PassesOwn.never (pt_cmpR op_notN (pv 8) pe_non (nomark _)) (pss_cons (ps_expr (pe_bm PySem.F.plainAttrs_list PySem.F.slot_list_append PySem.F.type_list_append mt_uAppend (pv 7) (pa_cons (pv 8) pa_nil)))
  (pss_cons (ps_set (i := 9) sc_sendings.nd rfl (.inr rfl) (pe_go k_chosen (hr.mono (by decide)) rfl F_chosen.g F_chosen.fn.kp F_chosen.b pass0 (pa_cons (pv 0) (pa_cons (pv 1) (pa_cons (pv 2) (pa_cons (pv 6) (pa_cons (pv 4) (pa_cons (pv 8) pa_nil))))))))
  (pss_cons (ps_if (pt_cmpR op_notN (pv 9) pe_non (nomark _)) (pss_cons (ps_expr (pe_bm PySem.F.plainAttrs_list PySem.F.slot_list_append PySem.F.type_list_append mt_uAppend (pv 5) (pa_cons (pe_tupU (pa_cons (pv 8) (pa_cons (pv 9) (pa_cons (pe_go k__call_of (hr.mono (by decide)) rfl F__call_of.g F__call_of.fn.kp F__call_of.b pass0 (pa_cons (pv 6) (pa_cons (pv 9) pa_nil))) pa_nil)))) pa_nil)))
  (pss_one (ps_setLc (i := 6) (own := [("row", 10)]) rfl sc_sendings.nd rfl rfl (sw_true rfl rfl rfl (by decide +kernel)) (pi_u (pv 6)) (blkOk_by (own := [("row", 10)]) (N := N_sendings) (sc := defScope s_sendings_) (by decide +kernel)) (fun _ _ _ _ _ => (pg_name (i := 10) sc_sendings.nd rfl (.inl rfl))) (fun _ _ _ _ _ => pts_nil) (fun _ _ _ _ _ => (pe_ifExp (pt_cmpR (op_uEq hr.rm.units) (pe_ix ix_u (pv 10) pe_int (fun _ _ => rfl)) (pv 9) (nomark _)) (pe_go k_with_task (hr.mono (by decide)) rfl F_with_task.g F_with_task.fn.kp F_with_task.b pass0 (pa_cons (pv 10) (pa_cons (pe_tupU (pa_cons pe_str (pa_cons (pv 8) pa_nil))) pa_nil))) (pv 10)))))) pss_nil)
  (pss_one (ps_set (i := 8) sc_sendings.nd rfl (.inr rfl) (pe_go k__next_call (hr.mono (by decide)) rfl F__next_call.g F__next_call.fn.kp F__next_call.b pass0 (pa_cons (pv 6) (pa_cons (pv 4) (pa_cons (pv 7) pa_nil))))))))))
  (pss_one (ps_ret (pe_tupU (pa_cons (pv 5) (pa_cons (pv 6) pa_nil))))))))))

abbrev s__law_cell_at_ : Stmt := topS 16
abbrev N__law_cell_at : List Str := ["script", "k"]
theorem sc__law_cell_at : FnScope N__law_cell_at ["script", "k"] (defScope s__law_cell_at_) := ⟨rfl, rfl, rfl, by decide +kernel, rfl, by decide +kernel, by decide +kernel⟩
def t__law_cell_at_r1 (K : PySem.W.Frag) : TS :=
  tRet (tC (.int 0))
def t__law_cell_at (K : PySem.W.Frag) : TS :=
  tSeq (tIfS (tTest (tOp (rI0 fun i j => .bl (decide (i < j))) (tVar 1) (tCB (uLen K) (tCons (tVar 0) (tNil))))) (tRet (tOp (uIx K) (tVar 0) (tVar 1))) (tNext)) (t__law_cell_at_r1 K)
theorem dv__law_cell_at {P : Program} {w : World} {K : PySem.W.Frag} {mg : Str → Option Value} {b : Heap} {a : Addr} {d : FuncData} {sp : Sp} (F : Fn K mg "_law_cell_at" s__law_cell_at_ a d ["script", "k"])
    (n_len : mg "len" = none)
    (len : ∀ vs H Q E, sp vs H Q E → vs.length = 2)
    (rd : ∀ vs H Q E, sp vs H Q E → run (t__law_cell_at K) (start N__law_cell_at vs) H Q) : Keeps P w K mg b CX0 2 a d ["script", "k"] sp := by
  refine keeps0 F.fn sc__law_cell_at len fun cdv A o s H vs Q E hr h => ⟨t__law_cell_at K, ?_, rd vs H Q E h⟩
  unfold t__law_cell_at t__law_cell_at_r1
  exact (pss_cons (ps_if (pt_cmpR op_lt (pv 1) (pe_callB call_uLen (by rfl) n_len (by decide +kernel) (pa_cons (pv 0) pa_nil)) (nomark _)) (pss_one (ps_ret (pe_ix ix_u (pv 0) (pv 1) (fun _ _ => rfl)))) pss_nil)
  (pss_one (ps_ret pe_int)))

abbrev s__law_row_ : Stmt := topS 17
abbrev N__law_row : List Str := ["cell", "many", "found", "number", "k"]
theorem sc__law_row : FnScope N__law_row ["cell", "many"] (defScope s__law_row_) := ⟨rfl, rfl, rfl, by decide +kernel, rfl, by decide +kernel, by decide +kernel⟩
def t__law_row_b1 (K : PySem.W.Frag) : TS :=
  tIfS (tTest (tOp (rI0 fun i j => .bl (decide (i < j))) (tCB (uAbs) (tCons (tVar 0) (tNil))) (tOp (rI CPow fun i j => .int (i ^ j.toNat)) (tC (.int 10)) (tC (.int 18))))) (tSeq (tAsg (tOp (rI (fun _ j => 0 < j) fun i j => .int (i % j)) (tOp (uAdd K) (tOp (uAdd K) (tOp uMul (tVar 3) (tC (.int 48271))) (tOp uMul (tC (.int 7)) (tVar 4))) (tC (.int 11))) (tC (.int 2147483647))) (gName 3)) (tDrop (tBM K "list" uAppend (tVar 2) (tCons (tOp (rI (fun _ j => 0 < j) fun i j => .int (i % j)) (tOp (rI CDiv fun i j => .int (i / j)) (tOp (rI (fun _ j => 0 < j) fun i j => .int (i % j)) (tOp (rI CPow fun i j => .int (i ^ j.toNat)) (tVar 3) (tC (.int 5))) (tC (.int 2147483629))) (tC (.int 3))) (tOp (rI CPow fun i j => .int (i ^ j.toNat)) (tC (.int 10)) (tC (.int 6)))) (tNil))))) (tSeq (tDrop (tBM K "list" uAppend (tVar 2) (tCons (tOp (rI (fun _ j => 0 < j) fun i j => .int (i % j)) (tVar 3) (tOp (rI CPow fun i j => .int (i ^ j.toNat)) (tC (.int 10)) (tC (.int 6)))) (tNil)))) (tAsg (tOp (rI CDiv fun i j => .int (i / j)) (tVar 3) (tOp (rI CPow fun i j => .int (i ^ j.toNat)) (tC (.int 10)) (tC (.int 6)))) (gName 3)))
def t__law_row_r1 (K : PySem.W.Frag) : TS :=
  tRet (tVar 2)
def t__law_row_r2 (K : PySem.W.Frag) : TS :=
  tSeq (tFor (iRng1 (tCons (tVar 1) (tNil))) (gName 4) (t__law_row_b1 K)) (t__law_row_r1 K)
def t__law_row (K : PySem.W.Frag) : TS :=
  tSeq (tAsg (tLstU (tNil)) (gName 2)) (tSeq (tAsg (tVar 0) (gName 3)) (tSeq (tIfS (tTest (tOp (rI0 fun i j => .bl (decide (i < j))) (tCB (uAbs) (tCons (tVar 0) (tNil))) (tOp (rI CPow fun i j => .int (i ^ j.toNat)) (tC (.int 10)) (tC (.int 18))))) (tAsg (tOp (rI (fun _ j => 0 < j) fun i j => .int (i % j)) (tVar 0) (tC (.int 2147483629))) (gName 3)) (tNext)) (t__law_row_r2 K)))
theorem dv__law_row {P : Program} {w : World} {K : PySem.W.Frag} {mg : Str → Option Value} {b : Heap} {a : Addr} {d : FuncData} {sp : Sp} (F : Fn K mg "_law_row" s__law_row_ a d ["cell", "many"])
    (n_abs : mg "abs" = none)
    (n_range : mg "range" = none)
    (len : ∀ vs H Q E, sp vs H Q E → vs.length = 2)
    (rd : ∀ vs H Q E, sp vs H Q E → run (t__law_row K) (start N__law_row vs) H Q) : Keeps P w K mg b CX0 2 a d ["cell", "many"] sp := by
  refine keeps0 F.fn sc__law_row len fun cdv A o s H vs Q E hr h => ⟨t__law_row K, ?_, rd vs H Q E h⟩
  unfold t__law_row t__law_row_r2 t__law_row_r1 t__law_row_b1
  exact (pss_cons (ps_set (i := 2) sc__law_row.nd rfl (.inl rfl) (pe_lstU pa_nil))
  (pss_cons (ps_set (i := 3) sc__law_row.nd rfl (.inl rfl) (pv 0))
  (pss_cons (ps_if (pt_cmpR op_lt (pe_callB call_uAbs (by rfl) n_abs (by decide +kernel) (pa_cons (pv 0) pa_nil)) (pe_op op_pow pe_int pe_int) (nomark _)) (pss_one (ps_set (i := 3) sc__law_row.nd rfl (.inl rfl) (pe_op op_mod (pv 0) pe_int))) pss_nil)
  (pss_cons (ps_for PassesOwn.never rfl (pi_range1 (by rfl) n_range (pa_cons (pv 1) pa_nil)) (pg_name (i := 4) sc__law_row.nd rfl (.inl rfl)) (pss_one (ps_if (pt_cmpR op_lt (pe_callB call_uAbs (by rfl) n_abs (by decide +kernel) (pa_cons (pv 0) pa_nil)) (pe_op op_pow pe_int pe_int) (nomark _)) (pss_cons (ps_set (i := 3) sc__law_row.nd rfl (.inl rfl) (pe_op op_mod (pe_op op_uAdd (pe_op op_uAdd (pe_op op_uMul (pv 3) pe_int) (pe_op op_uMul pe_int (pv 4))) pe_int) pe_int))
  (pss_one (ps_expr (pe_bm PySem.F.plainAttrs_list PySem.F.slot_list_append PySem.F.type_list_append mt_uAppend (pv 2) (pa_cons (pe_op op_mod (pe_op op_fdiv (pe_op op_mod (pe_op op_pow (pv 3) pe_int) pe_int) pe_int) (pe_op op_pow pe_int pe_int)) pa_nil))))) (pss_cons (ps_expr (pe_bm PySem.F.plainAttrs_list PySem.F.slot_list_append PySem.F.type_list_append mt_uAppend (pv 2) (pa_cons (pe_op op_mod (pv 3) (pe_op op_pow pe_int pe_int)) pa_nil)))
  (pss_one (ps_set (i := 3) sc__law_row.nd rfl (.inl rfl) (pe_op op_fdiv (pv 3) (pe_op op_pow pe_int pe_int))))))))
  (pss_one (ps_ret (pv 2)))))))

abbrev s__law_names_ : Stmt := topS 18
abbrev N__law_names : List Str := ["row", "many", "signs", "size", "at", "k", "word", "wide", "step", "lot", "names", "sign", "name", "words", "special"]
theorem sc__law_names : FnScope N__law_names ["row", "many"] (defScope s__law_names_) := ⟨rfl, rfl, rfl, by decide +kernel, rfl, by decide +kernel, by decide +kernel⟩
def t__law_names_b1 (K : PySem.W.Frag) : TS :=
  tSeq (tAsg (tOp (uIx K) (tVar 2) (tOp (rI (fun _ j => 0 < j) fun i j => .int (i % j)) (tOp (uAdd K) (tOp (uIx K) (tVar 0) (tC (.int 11))) (tOp uMul (tVar 5) (tVar 8))) (tVar 7))) (gName 11)) (tSeq (tAsg (tOp (uAdd K) (tOp (uAdd K) (tSl (uSl K) (tVar 6) (tNoPart) (tPart (tVar 4))) (tVar 11)) (tSl (uSl K) (tVar 6) (tPart (tOp (uAdd K) (tVar 4) (tC (.int 1)))) (tNoPart))) (gName 12)) (tDrop (tBM K "list" uAppend (tVar 10) (tCons (tSl (uSl K) (tVar 12) (tNoPart) (tPart (tOp (rI0 fun i j => .int (i - j)) (tVar 3) (tOp uMul (tOp (rI (fun _ j => 0 < j) fun i j => .int (i % j)) (tVar 9) (tC (.int 2))) (tOp (rI (fun _ j => 0 < j) fun i j => .int (i % j)) (tOp uMul (tC (.int 3)) (tVar 5)) (tOp (rI0 fun i j => .int (i - j)) (tVar 3) (tVar 4))))))) (tNil)))))
def t__law_names_r1 (K : PySem.W.Frag) : TS :=
  tRet (tVar 10)
def t__law_names_r2 (K : PySem.W.Frag) : TS :=
  tSeq (tAsg (tM1 uSplit (tC (.str "free to at sent there cut done off call told passed on open shut grade bare held")) (tC (.str " "))) (gName 13)) (tSeq (tAsg (tOp (uIx K) (tOp (uAdd K) (tVar 13) (tLstU (tCons (tC (.str "moved")) (tCons (tC (.str "stands")) (tCons (tC (.str "drives")) (tNil)))))) (tOp (rI (fun _ j => 0 < j) fun i j => .int (i % j)) (tOp (rI CDiv fun i j => .int (i / j)) (tVar 9) (tC (.int 8))) (tC (.int 20)))) (gName 14)) (tSeq (tIfS (tAnd (tTest (tOp (uEq K false) (tOp (rI (fun _ j => 0 < j) fun i j => .int (i % j)) (tOp (rI CDiv fun i j => .int (i / j)) (tVar 9) (tC (.int 2))) (tC (.int 4))) (tC (.int 1)))) (tTest (tOp (uIn K true) (tVar 14) (tVar 10)))) (tAsg (tVar 14) (gSub (tVar 10) (tOp (rI (fun _ j => 0 < j) fun i j => .int (i % j)) (tOp (rI CDiv fun i j => .int (i / j)) (tVar 9) (tC (.int 160))) (tVar 1)) uSetL)) (tNext)) (t__law_names_r1 K)))
def t__law_names (K : PySem.W.Frag) : TS :=
  tSeq (tAsg (tC (.str "abcdefghijklmnopqrstuvwxyz0123456789")) (gName 2)) (tSeq (tAsg (tOp (uAdd K) (tC (.int 1)) (tOp (rI (fun _ j => 0 < j) fun i j => .int (i % j)) (tOp (uIx K) (tVar 0) (tC (.int 0))) (tC (.int 8)))) (gName 3)) (tSeq (tAsg (tOp (rI (fun _ j => 0 < j) fun i j => .int (i % j)) (tOp (uIx K) (tVar 0) (tC (.int 1))) (tVar 3)) (gName 4)) (tSeq (tAsg (tM1 (uJoin K) (tC (.str "")) (tLc (iRng1 (tCons (tVar 3) (tNil))) (gName 5) (tYes) (tOp (uIx K) (tVar 2) (tOp (rI (fun _ j => 0 < j) fun i j => .int (i % j)) (tOp (uIx K) (tVar 0) (tOp (uAdd K) (tC (.int 2)) (tVar 5))) (tOp (uIx K) (tLstU (tCons (tC (.int 36)) (tCons (tC (.int 26)) (tNil)))) (tCB (uInt) (tCons (tOp (uEq K false) (tVar 5) (tC (.int 0))) (tNil)))))) [5])) (gName 6)) (tSeq (tAsg (tOp (uIx K) (tLstU (tCons (tC (.int 36)) (tCons (tC (.int 26)) (tNil)))) (tCB (uInt) (tCons (tOp (uEq K false) (tVar 4) (tC (.int 0))) (tNil)))) (gName 7)) (tSeq (tAsg (tOp (uIx K) (tLstU (tCons (tC (.int 1)) (tCons (tC (.int 5)) (tCons (tC (.int 7)) (tCons (tC (.int 11)) (tNil)))))) (tOp (rI (fun _ j => 0 < j) fun i j => .int (i % j)) (tOp (uIx K) (tVar 0) (tC (.int 10))) (tC (.int 4)))) (gName 8)) (tSeq (tAsg (tOp (uIx K) (tVar 0) (tOp (rI0 fun i j => .int (i - j)) (tCB (uLen K) (tCons (tVar 0) (tNil))) (tC (.int 1)))) (gName 9)) (tSeq (tAsg (tLstU (tNil)) (gName 10)) (tSeq (tFor (iRng1 (tCons (tVar 1) (tNil))) (gName 5) (t__law_names_b1 K)) (t__law_names_r2 K)))))))))
theorem dv__law_names {P : Program} {w : World} {K : PySem.W.Frag} {mg : Str → Option Value} {b : Heap} {a : Addr} {d : FuncData} {sp : Sp} (F : Fn K mg "_law_names" s__law_names_ a d ["row", "many"])
    (n_range : mg "range" = none)
    (n_int : mg "int" = none)
    (n_len : mg "len" = none)
    (len : ∀ vs H Q E, sp vs H Q E → vs.length = 2)
    (rd : ∀ vs H Q E, sp vs H Q E → run (t__law_names K) (start N__law_names vs) H Q) : Keeps P w K mg b CX0 2 a d ["row", "many"] sp := by
  refine keeps0 F.fn sc__law_names len fun cdv A o s H vs Q E hr h => ⟨t__law_names K, ?_, rd vs H Q E h⟩
  unfold t__law_names t__law_names_r2 t__law_names_r1 t__law_names_b1
  exact (pss_cons (ps_set (i := 2) sc__law_names.nd rfl (.inr rfl) pe_str)
  (pss_cons (ps_set (i := 3) sc__law_names.nd rfl (.inl rfl) (pe_op op_uAdd pe_int (pe_op op_mod (pe_ix ix_u (pv 0) pe_int (fun _ _ => rfl)) pe_int)))
  (pss_cons (ps_set (i := 4) sc__law_names.nd rfl (.inl rfl) (pe_op op_mod (pe_ix ix_u (pv 0) pe_int (fun _ _ => rfl)) (pv 3)))
  (pss_cons (ps_set (i := 6) sc__law_names.nd rfl (.inl rfl) (pe_uJoin pe_str (pe_lc (own := [("k", 5)]) rfl sc__law_names.nd (pi_range1 (by rfl) n_range (pa_cons (pv 3) pa_nil)) (blkOk_by (own := [("k", 5)]) (N := N__law_names) (sc := defScope s__law_names_) (by decide +kernel)) (fun _ _ _ _ _ => (pg_name (i := 5) sc__law_names.nd rfl (.inl rfl))) (fun _ _ _ _ _ => pts_nil) (fun _ _ _ _ _ => (pe_ix ix_u (pv 2) (pe_op op_mod (pe_ix ix_u (pv 0) (pe_op op_uAdd pe_int (pv 5)) (fun _ _ => rfl)) (pe_ix ix_u (pe_lstU (pa_cons pe_int (pa_cons pe_int pa_nil))) (pe_callTy call_uInt (by rfl) n_int (by decide +kernel) (pa_cons (pe_cmpR (op_uEq hr.rm.units) (pv 5) pe_int (nomark _)) pa_nil)) (fun _ _ => rfl))) (fun _ _ => rfl))))))
  (pss_cons (ps_set (i := 7) sc__law_names.nd rfl (.inl rfl) (pe_ix ix_u (pe_lstU (pa_cons pe_int (pa_cons pe_int pa_nil))) (pe_callTy call_uInt (by rfl) n_int (by decide +kernel) (pa_cons (pe_cmpR (op_uEq hr.rm.units) (pv 4) pe_int (nomark _)) pa_nil)) (fun _ _ => rfl)))
  (pss_cons (ps_set (i := 8) sc__law_names.nd rfl (.inl rfl) (pe_ix ix_u (pe_lstU (pa_cons pe_int (pa_cons pe_int (pa_cons pe_int (pa_cons pe_int pa_nil))))) (pe_op op_mod (pe_ix ix_u (pv 0) pe_int (fun _ _ => rfl)) pe_int) (fun _ _ => rfl)))
  (pss_cons (ps_set (i := 9) sc__law_names.nd rfl (.inl rfl) (pe_ix ix_u (pv 0) (pe_op op_sub (pe_callB call_uLen (by rfl) n_len (by decide +kernel) (pa_cons (pv 0) pa_nil)) pe_int) (fun _ _ => rfl)))
  (pss_cons (ps_set (i := 10) sc__law_names.nd rfl (.inl rfl) (pe_lstU pa_nil))
  (pss_cons (ps_for PassesOwn.never rfl (pi_range1 (by rfl) n_range (pa_cons (pv 1) pa_nil)) (pg_name (i := 5) sc__law_names.nd rfl (.inl rfl)) (pss_cons (ps_set (i := 11) sc__law_names.nd rfl (.inl rfl) (pe_ix ix_u (pv 2) (pe_op op_mod (pe_op op_uAdd (pe_ix ix_u (pv 0) pe_int (fun _ _ => rfl)) (pe_op op_uMul (pv 5) (pv 8))) (pv 7)) (fun _ _ => rfl)))
  (pss_cons (ps_set (i := 12) sc__law_names.nd rfl (.inl rfl) (pe_op op_uAdd (pe_op op_uAdd (pe_slice sl_u (pv 6) po_none (po_some (pv 4))) (pv 11)) (pe_slice sl_u (pv 6) (po_some (pe_op op_uAdd (pv 4) pe_int)) po_none)))
  (pss_one (ps_expr (pe_bm PySem.F.plainAttrs_list PySem.F.slot_list_append PySem.F.type_list_append mt_uAppend (pv 10) (pa_cons (pe_slice sl_u (pv 12) po_none (po_some (pe_op op_sub (pv 3) (pe_op op_uMul (pe_op op_mod (pv 9) pe_int) (pe_op op_mod (pe_op op_uMul pe_int (pv 5)) (pe_op op_sub (pv 3) (pv 4))))))) pa_nil)))))))
  (pss_cons (ps_set (i := 13) sc__law_names.nd rfl (.inl rfl) (pe_uSplit pe_str pe_str))
  (pss_cons (ps_set (i := 14) sc__law_names.nd rfl (.inl rfl) (pe_ix ix_u (pe_op op_uAdd (pv 13) (pe_lstU (pa_cons pe_str (pa_cons pe_str (pa_cons pe_str pa_nil))))) (pe_op op_mod (pe_op op_fdiv (pv 9) pe_int) pe_int) (fun _ _ => rfl)))
  (pss_cons (ps_if (PW.pt (pw_and (pt_cmpR (op_uEq hr.rm.units) (pe_op op_mod (pe_op op_fdiv (pv 9) pe_int) pe_int) pe_int (nomark _)) (pw_and1 (pt_cmpR op_uNotIn (pv 14) (pv 10) rfl)))) (pss_one (ps_asg (pv 14) (pg_sub (pv 10) (pe_op op_mod (pe_op op_fdiv (pv 9) pe_int) (pv 1)) set_u))) pss_nil)
  (pss_one (ps_ret (pv 10)))))))))))))))

abbrev s__law_road_ : Stmt := topS 19
abbrev N__law_road : List Str := ["row", "names", "one", "other", "span", "there", "back"]
theorem sc__law_road : FnScope N__law_road ["row", "names"] (defScope s__law_road_) := ⟨rfl, rfl, rfl, by decide +kernel, rfl, by decide +kernel, by decide +kernel⟩
def t__law_road (K : PySem.W.Frag) : TS :=
  tSeq (tAsg (tOp (rI (fun _ j => 0 < j) fun i j => .int (i % j)) (tOp (uIx K) (tVar 0) (tC (.int 0))) (tCB (uLen K) (tCons (tVar 1) (tNil)))) (gName 2)) (tSeq (tAsg (tOp (rI (fun _ j => 0 < j) fun i j => .int (i % j)) (tOp (uAdd K) (tOp (uAdd K) (tVar 2) (tC (.int 1))) (tOp (rI (fun _ j => 0 < j) fun i j => .int (i % j)) (tOp (uIx K) (tVar 0) (tC (.int 1))) (tOp (rI0 fun i j => .int (i - j)) (tCB (uLen K) (tCons (tVar 1) (tNil))) (tC (.int 1))))) (tCB (uLen K) (tCons (tVar 1) (tNil)))) (gName 3)) (tSeq (tAsg (tOp (uIx K) (tLstU (tCons (tC (.int 2)) (tCons (tC (.int 5)) (tCons (tC (.int 60)) (tNil))))) (tOp (rI (fun _ j => 0 < j) fun i j => .int (i % j)) (tOp (uIx K) (tVar 0) (tC (.int 4))) (tC (.int 3)))) (gName 4)) (tSeq (tAsg (tOp (uIx K) (tLstU (tCons (tOp (uAdd K) (tC (.int 1)) (tOp (rI (fun _ j => 0 < j) fun i j => .int (i % j)) (tOp (uIx K) (tVar 0) (tC (.int 2))) (tVar 4))) (tCons (tC .non) (tNil)))) (tCB (uInt) (tCons (tOp (uEq K false) (tOp (rI (fun _ j => 0 < j) fun i j => .int (i % j)) (tOp (uIx K) (tVar 0) (tC (.int 5))) (tC (.int 5))) (tC (.int 1))) (tNil)))) (gName 5)) (tSeq (tAsg (tOp (uIx K) (tLstU (tCons (tOp (uAdd K) (tC (.int 1)) (tOp (rI (fun _ j => 0 < j) fun i j => .int (i % j)) (tOp (uIx K) (tVar 0) (tC (.int 3))) (tVar 4))) (tCons (tC .non) (tNil)))) (tCB (uInt) (tCons (tOp (uEq K false) (tOp (rI (fun _ j => 0 < j) fun i j => .int (i % j)) (tOp (uIx K) (tVar 0) (tC (.int 5))) (tC (.int 5))) (tC (.int 2))) (tNil)))) (gName 6)) (tRet (tTupU (tCons (tOp (uIx K) (tVar 1) (tVar 2)) (tCons (tOp (uIx K) (tVar 1) (tVar 3)) (tCons (tVar 5) (tCons (tVar 6) (tNil)))))))))))
theorem dv__law_road {P : Program} {w : World} {K : PySem.W.Frag} {mg : Str → Option Value} {b : Heap} {a : Addr} {d : FuncData} {sp : Sp} (F : Fn K mg "_law_road" s__law_road_ a d ["row", "names"])
    (n_len : mg "len" = none)
    (n_int : mg "int" = none)
    (len : ∀ vs H Q E, sp vs H Q E → vs.length = 2)
    (rd : ∀ vs H Q E, sp vs H Q E → run (t__law_road K) (start N__law_road vs) H Q) : Keeps P w K mg b CX0 2 a d ["row", "names"] sp := by
  refine keeps0 F.fn sc__law_road len fun cdv A o s H vs Q E hr h => ⟨t__law_road K, ?_, rd vs H Q E h⟩
  unfold t__law_road 
  exact (pss_cons (ps_set (i := 2) sc__law_road.nd rfl (.inl rfl) (pe_op op_mod (pe_ix ix_u (pv 0) pe_int (fun _ _ => rfl)) (pe_callB call_uLen (by rfl) n_len (by decide +kernel) (pa_cons (pv 1) pa_nil))))
  (pss_cons (ps_set (i := 3) sc__law_road.nd rfl (.inl rfl) (pe_op op_mod (pe_op op_uAdd (pe_op op_uAdd (pv 2) pe_int) (pe_op op_mod (pe_ix ix_u (pv 0) pe_int (fun _ _ => rfl)) (pe_op op_sub (pe_callB call_uLen (by rfl) n_len (by decide +kernel) (pa_cons (pv 1) pa_nil)) pe_int))) (pe_callB call_uLen (by rfl) n_len (by decide +kernel) (pa_cons (pv 1) pa_nil))))
  (pss_cons (ps_set (i := 4) sc__law_road.nd rfl (.inl rfl) (pe_ix ix_u (pe_lstU (pa_cons pe_int (pa_cons pe_int (pa_cons pe_int pa_nil)))) (pe_op op_mod (pe_ix ix_u (pv 0) pe_int (fun _ _ => rfl)) pe_int) (fun _ _ => rfl)))
  (pss_cons (ps_set (i := 5) sc__law_road.nd rfl (.inl rfl) (pe_ix ix_u (pe_lstU (pa_cons (pe_op op_uAdd pe_int (pe_op op_mod (pe_ix ix_u (pv 0) pe_int (fun _ _ => rfl)) (pv 4))) (pa_cons pe_non pa_nil))) (pe_callTy call_uInt (by rfl) n_int (by decide +kernel) (pa_cons (pe_cmpR (op_uEq hr.rm.units) (pe_op op_mod (pe_ix ix_u (pv 0) pe_int (fun _ _ => rfl)) pe_int) pe_int (nomark _)) pa_nil)) (fun _ _ => rfl)))
  (pss_cons (ps_set (i := 6) sc__law_road.nd rfl (.inl rfl) (pe_ix ix_u (pe_lstU (pa_cons (pe_op op_uAdd pe_int (pe_op op_mod (pe_ix ix_u (pv 0) pe_int (fun _ _ => rfl)) (pv 4))) (pa_cons pe_non pa_nil))) (pe_callTy call_uInt (by rfl) n_int (by decide +kernel) (pa_cons (pe_cmpR (op_uEq hr.rm.units) (pe_op op_mod (pe_ix ix_u (pv 0) pe_int (fun _ _ => rfl)) pe_int) pe_int (nomark _)) pa_nil)) (fun _ _ => rfl)))
  (pss_one (ps_ret (pe_tupU (pa_cons (pe_ix ix_u (pv 1) (pv 2) (fun _ _ => rfl)) (pa_cons (pe_ix ix_u (pv 1) (pv 3) (fun _ _ => rfl)) (pa_cons (pv 5) (pa_cons (pv 6) pa_nil))))))))))))

abbrev s__law_town_ : Stmt := topS 20
abbrev N__law_town : List Str := ["script", "start", "row", "names", "roads", "cell", "at", "stands", "reach"]
theorem sc__law_town : FnScope N__law_town ["script", "start"] (defScope s__law_town_) := ⟨rfl, rfl, rfl, by decide +kernel, rfl, by decide +kernel, by decide +kernel⟩
def t__law_town_b1 (K : PySem.W.Frag) (s__law_row : Sp) (s__law_cell_at : Sp) (s__law_names : Sp) (s__law_road : Sp) : TS :=
  tIfS (tTest (tOp (rI0 fun i j => .bl (decide (j < i))) (tCB (uLen K) (tCons (tVar 3) (tNil))) (tC (.int 1)))) (tDrop (tBM K "list" uAppend (tVar 4) (tCons (tGo s__law_road E0 (tCons (tGo s__law_row E0 (tCons (tVar 5) (tCons (tC (.int 6)) (tNil)))) (tCons (tVar 3) (tNil)))) (tNil)))) (tNext)
def t__law_town_r1 (K : PySem.W.Frag) (s__law_row : Sp) (s__law_cell_at : Sp) (s__law_names : Sp) (s__law_road : Sp) : TS :=
  tSeq (tAsg (tOp (rI (fun _ j => 0 < j) fun i j => .int (i % j)) (tOp (uIx K) (tVar 2) (tC (.int 14))) (tCB (uLen K) (tCons (tVar 3) (tNil)))) (gName 6)) (tSeq (tAsg (tSl (uSl K) (tOp (uAdd K) (tVar 3) (tVar 3)) (tPart (tVar 6)) (tPart (tOp (uAdd K) (tOp (uAdd K) (tVar 6) (tC (.int 1))) (tOp (rI (fun _ j => 0 < j) fun i j => .int (i % j)) (tOp (uIx K) (tVar 2) (tC (.int 13))) (tCB uMin2 (tCons (tC (.int 5)) (tCons (tCB (uLen K) (tCons (tVar 3) (tNil))) (tNil)))))))) (gName 7)) (tSeq (tAsg (tOp (uIx K) (tLstU (tCons (tOp (rI (fun _ j => 0 < j) fun i j => .int (i % j)) (tOp (uIx K) (tVar 2) (tC (.int 16))) (tC (.int 121))) (tCons (tOp (rI (fun _ j => 0 < j) fun i j => .int (i % j)) (tOp (uIx K) (tVar 2) (tC (.int 16))) (tC (.int 13))) (tCons (tC (.int 120)) (tCons (tC (.int 0)) (tNil)))))) (tOp (rI (fun _ j => 0 < j) fun i j => .int (i % j)) (tOp (uIx K) (tVar 2) (tC (.int 17))) (tC (.int 4)))) (gName 8)) (tRet (tTupU (tCons (tCB (uTuple K) (tCons (tVar 3) (tNil))) (tCons (tCB (uTuple K) (tCons (tVar 4) (tNil))) (tCons (tCB (uTuple K) (tCons (tVar 7) (tNil))) (tCons (tVar 8) (tNil)))))))))
def t__law_town (K : PySem.W.Frag) (s__law_row : Sp) (s__law_cell_at : Sp) (s__law_names : Sp) (s__law_road : Sp) : TS :=
  tSeq (tAsg (tGo s__law_row E0 (tCons (tGo s__law_cell_at E0 (tCons (tVar 0) (tCons (tVar 1) (tNil)))) (tCons (tC (.int 20)) (tNil)))) (gName 2)) (tSeq (tAsg (tGo s__law_names E0 (tCons (tVar 2) (tCons (tOp (uAdd K) (tC (.int 1)) (tOp (rI (fun _ j => 0 < j) fun i j => .int (i % j)) (tOp (uIx K) (tVar 2) (tC (.int 12))) (tC (.int 10)))) (tNil)))) (gName 3)) (tSeq (tAsg (tLstU (tNil)) (gName 4)) (tSeq (tFor (iU K (tSl (uSl K) (tVar 0) (tPart (tOp (uAdd K) (tVar 1) (tC (.int 1)))) (tPart (tOp (uAdd K) (tVar 1) (tC (.int 19)))))) (gName 5) (t__law_town_b1 K s__law_row s__law_cell_at s__law_names s__law_road)) (t__law_town_r1 K s__law_row s__law_cell_at s__law_names s__law_road))))
theorem dv__law_town {P : Program} {w : World} {K : PySem.W.Frag} {mg : Str → Option Value} {b : Heap} {a : Addr} {d : FuncData} {sp : Sp} (F : Fn K mg "_law_town" s__law_town_ a d ["script", "start"])
    {a__law_row : Addr} {d__law_row : FuncData} {s__law_row : Sp} (F__law_row : Fn K mg "_law_row" s__law_row_ a__law_row d__law_row ["cell", "many"]) (k__law_row : Keeps P w K mg b CX0 2 a__law_row d__law_row ["cell", "many"] s__law_row)
    {a__law_cell_at : Addr} {d__law_cell_at : FuncData} {s__law_cell_at : Sp} (F__law_cell_at : Fn K mg "_law_cell_at" s__law_cell_at_ a__law_cell_at d__law_cell_at ["script", "k"]) (k__law_cell_at : Keeps P w K mg b CX0 2 a__law_cell_at d__law_cell_at ["script", "k"] s__law_cell_at)
    {a__law_names : Addr} {d__law_names : FuncData} {s__law_names : Sp} (F__law_names : Fn K mg "_law_names" s__law_names_ a__law_names d__law_names ["row", "many"]) (k__law_names : Keeps P w K mg b CX0 2 a__law_names d__law_names ["row", "many"] s__law_names)
    (n_len : mg "len" = none)
    {a__law_road : Addr} {d__law_road : FuncData} {s__law_road : Sp} (F__law_road : Fn K mg "_law_road" s__law_road_ a__law_road d__law_road ["row", "names"]) (k__law_road : Keeps P w K mg b CX0 2 a__law_road d__law_road ["row", "names"] s__law_road)
    (n_min : mg "min" = none)
    (n_tuple : mg "tuple" = none)
    (len : ∀ vs H Q E, sp vs H Q E → vs.length = 2)
    (rd : ∀ vs H Q E, sp vs H Q E → run (t__law_town K s__law_row s__law_cell_at s__law_names s__law_road) (start N__law_town vs) H Q) : Keeps P w K mg b CX0 3 a d ["script", "start"] sp := by
  refine keeps0 F.fn sc__law_town len fun cdv A o s H vs Q E hr h => ⟨t__law_town K s__law_row s__law_cell_at s__law_names s__law_road, ?_, rd vs H Q E h⟩
  unfold t__law_town t__law_town_r1 t__law_town_b1
  exact (pss_cons (ps_set (i := 2) sc__law_town.nd rfl (.inl rfl) (pe_go k__law_row (hr.mono (by decide)) rfl F__law_row.g F__law_row.fn.kp F__law_row.b pass0 (pa_cons (pe_go k__law_cell_at (hr.mono (by decide)) rfl F__law_cell_at.g F__law_cell_at.fn.kp F__law_cell_at.b pass0 (pa_cons (pv 0) (pa_cons (pv 1) pa_nil))) (pa_cons pe_int pa_nil))))
  (pss_cons (ps_set (i := 3) sc__law_town.nd rfl (.inl rfl) (pe_go k__law_names (hr.mono (by decide)) rfl F__law_names.g F__law_names.fn.kp F__law_names.b pass0 (pa_cons (pv 2) (pa_cons (pe_op op_uAdd pe_int (pe_op op_mod (pe_ix ix_u (pv 2) pe_int (fun _ _ => rfl)) pe_int)) pa_nil))))
  (pss_cons (ps_set (i := 4) sc__law_town.nd rfl (.inl rfl) (pe_lstU pa_nil))
  (pss_cons (ps_for PassesOwn.never rfl (pi_u (pe_slice sl_u (pv 0) (po_some (pe_op op_uAdd (pv 1) pe_int)) (po_some (pe_op op_uAdd (pv 1) pe_int)))) (pg_name (i := 5) sc__law_town.nd rfl (.inl rfl)) (pss_one (ps_if (pt_cmpR op_gt (pe_callB call_uLen (by rfl) n_len (by decide +kernel) (pa_cons (pv 3) pa_nil)) pe_int (nomark _)) (pss_one (ps_expr (pe_bm PySem.F.plainAttrs_list PySem.F.slot_list_append PySem.F.type_list_append mt_uAppend (pv 4) (pa_cons (pe_go k__law_road (hr.mono (by decide)) rfl F__law_road.g F__law_road.fn.kp F__law_road.b pass0 (pa_cons (pe_go k__law_row (hr.mono (by decide)) rfl F__law_row.g F__law_row.fn.kp F__law_row.b pass0 (pa_cons (pv 5) (pa_cons pe_int pa_nil))) (pa_cons (pv 3) pa_nil))) pa_nil)))) pss_nil)))
  (pss_cons (ps_set (i := 6) sc__law_town.nd rfl (.inl rfl) (pe_op op_mod (pe_ix ix_u (pv 2) pe_int (fun _ _ => rfl)) (pe_callB call_uLen (by rfl) n_len (by decide +kernel) (pa_cons (pv 3) pa_nil))))
  (pss_cons (ps_set (i := 7) sc__law_town.nd rfl (.inl rfl) (pe_slice sl_u (pe_op op_uAdd (pv 3) (pv 3)) (po_some (pv 6)) (po_some (pe_op op_uAdd (pe_op op_uAdd (pv 6) pe_int) (pe_op op_mod (pe_ix ix_u (pv 2) pe_int (fun _ _ => rfl)) (pe_callB (call_uMin2 rfl) (by rfl) n_min (by decide +kernel) (pa_cons pe_int (pa_cons (pe_callB call_uLen (by rfl) n_len (by decide +kernel) (pa_cons (pv 3) pa_nil)) pa_nil))))))))
  (pss_cons (ps_set (i := 8) sc__law_town.nd rfl (.inl rfl) (pe_ix ix_u (pe_lstU (pa_cons (pe_op op_mod (pe_ix ix_u (pv 2) pe_int (fun _ _ => rfl)) pe_int) (pa_cons (pe_op op_mod (pe_ix ix_u (pv 2) pe_int (fun _ _ => rfl)) pe_int) (pa_cons pe_int (pa_cons pe_int pa_nil))))) (pe_op op_mod (pe_ix ix_u (pv 2) pe_int (fun _ _ => rfl)) pe_int) (fun _ _ => rfl)))
  (pss_one (ps_ret (pe_tupU (pa_cons (pe_callTy call_uTuple (by rfl) n_tuple (by decide +kernel) (pa_cons (pv 3) pa_nil)) (pa_cons (pe_callTy call_uTuple (by rfl) n_tuple (by decide +kernel) (pa_cons (pv 4) pa_nil)) (pa_cons (pe_callTy call_uTuple (by rfl) n_tuple (by decide +kernel) (pa_cons (pv 7) pa_nil)) (pa_cons (pv 8) pa_nil))))))))))))))

abbrev s__law_shut_ : Stmt := topS 21
abbrev N__law_shut : List Str := ["cell", "town", "row", "share", "k"]
theorem sc__law_shut : FnScope N__law_shut ["cell", "town"] (defScope s__law_shut_) := ⟨rfl, rfl, rfl, by decide +kernel, rfl, by decide +kernel, by decide +kernel⟩
def t__law_shut (K : PySem.W.Frag) (s__law_row : Sp) : TS :=
  tSeq (tAsg (tGo s__law_row E0 (tCons (tVar 0) (tCons (tC (.int 20)) (tNil)))) (gName 2)) (tSeq (tAsg (tOp (uIx K) (tLstU (tCons (tOp (uAdd K) (tOp (rI CPow fun i j => .int (i ^ j.toNat)) (tC (.int 10)) (tC (.int 6))) (tC (.int 1))) (tCons (tC (.int 5)) (tCons (tC (.int 2)) (tNil))))) (tOp (rI (fun _ j => 0 < j) fun i j => .int (i % j)) (tOp (uIx K) (tVar 2) (tC (.int 18))) (tC (.int 3)))) (gName 3)) (tRet (tCB (uTuple K) (tCons (tLc (iRng1 (tCons (tCB (uLen K) (tCons (tOp (uIx K) (tVar 1) (tC (.int 1))) (tNil))) (tNil))) (gName 4) (tTest (tOp (uEq K false) (tOp (rI (fun _ j => 0 < j) fun i j => .int (i % j)) (tOp (uIx K) (tVar 2) (tVar 4)) (tVar 3)) (tC (.int 1)))) (tVar 4) [4]) (tNil)))))
theorem dv__law_shut {P : Program} {w : World} {K : PySem.W.Frag} {mg : Str → Option Value} {b : Heap} {a : Addr} {d : FuncData} {sp : Sp} (F : Fn K mg "_law_shut" s__law_shut_ a d ["cell", "town"])
    {a__law_row : Addr} {d__law_row : FuncData} {s__law_row : Sp} (F__law_row : Fn K mg "_law_row" s__law_row_ a__law_row d__law_row ["cell", "many"]) (k__law_row : Keeps P w K mg b CX0 2 a__law_row d__law_row ["cell", "many"] s__law_row)
    (n_tuple : mg "tuple" = none)
    (n_range : mg "range" = none)
    (n_len : mg "len" = none)
    (len : ∀ vs H Q E, sp vs H Q E → vs.length = 2)
    (rd : ∀ vs H Q E, sp vs H Q E → run (t__law_shut K s__law_row) (start N__law_shut vs) H Q) : Keeps P w K mg b CX0 3 a d ["cell", "town"] sp := by
  refine keeps0 F.fn sc__law_shut len fun cdv A o s H vs Q E hr h => ⟨t__law_shut K s__law_row, ?_, rd vs H Q E h⟩
  unfold t__law_shut 
  exact (pss_cons (ps_set (i := 2) sc__law_shut.nd rfl (.inr rfl) (pe_go k__law_row (hr.mono (by decide)) rfl F__law_row.g F__law_row.fn.kp F__law_row.b pass0 (pa_cons (pv 0) (pa_cons pe_int pa_nil))))
  (pss_cons (ps_set (i := 3) sc__law_shut.nd rfl (.inr rfl) (pe_ix ix_u (pe_lstU (pa_cons (pe_op op_uAdd (pe_op op_pow pe_int pe_int) pe_int) (pa_cons pe_int (pa_cons pe_int pa_nil)))) (pe_op op_mod (pe_ix ix_u (pv 2) pe_int (fun _ _ => rfl)) pe_int) (fun _ _ => rfl)))
  (pss_one (ps_ret (pe_callTy call_uTuple (by rfl) n_tuple (by decide +kernel) (pa_cons (pe_lc (own := [("k", 4)]) rfl sc__law_shut.nd (pi_range1 (by rfl) n_range (pa_cons (pe_callB call_uLen (by rfl) n_len (by decide +kernel) (pa_cons (pe_ix ix_u (pv 1) pe_int (fun _ _ => rfl)) pa_nil)) pa_nil)) (blkOk_by (own := [("k", 4)]) (N := N__law_shut) (sc := defScope s__law_shut_) (by decide +kernel)) (fun _ _ _ _ _ => (pg_name (i := 4) sc__law_shut.nd rfl (.inl rfl))) (fun _ _ _ _ _ => (pts_one (pt_cmpR (op_uEq hr.rm.units) (pe_op op_mod (pe_ix ix_u (pv 2) (pv 4) (fun _ _ => rfl)) (pv 3)) pe_int (nomark _)))) (fun _ _ _ _ _ => (pv 4))) pa_nil))))))

abbrev s__law_steps_ : Stmt := topS 22
abbrev N__law_steps : List Str := ["town", "shut", "found", "k", "one", "other", "there", "back", "a", "b"]
theorem sc__law_steps : FnScope N__law_steps ["town", "shut"] (defScope s__law_steps_) := ⟨rfl, rfl, rfl, by decide +kernel, rfl, by decide +kernel, by decide +kernel⟩
def t__law_steps_r1 (K : PySem.W.Frag) : TS :=
  tIfS (tAnd (tTest (tOp (uIn K true) (tVar 3) (tVar 1))) (tTest (tOp rNotN (tVar 7) (tC .non)))) (tDrop (tBM K "list" uAppend (tVar 2) (tCons (tTupU (tCons (tVar 3) (tCons (tVar 9) (tCons (tVar 8) (tCons (tVar 7) (tNil)))))) (tNil)))) (tNext)
def t__law_steps_b1 (K : PySem.W.Frag) : TS :=
  tSeq (tAsg (tOp (uIx K) (tOp (uIx K) (tVar 0) (tC (.int 1))) (tVar 3)) (gTup K 4 (gCons (gName 4) (gCons (gName 5) (gCons (gName 6) (gCons (gName 7) (gNil))))))) (tSeq (tAsg (tIdx K (tOp (uIx K) (tVar 0) (tC (.int 0))) (tCons (tVar 4) (tNil))) (gName 8)) (tSeq (tAsg (tIdx K (tOp (uIx K) (tVar 0) (tC (.int 0))) (tCons (tVar 5) (tNil))) (gName 9)) (tSeq (tIfS (tAnd (tTest (tOp (uIn K true) (tVar 3) (tVar 1))) (tTest (tOp rNotN (tVar 6) (tC .non)))) (tDrop (tBM K "list" uAppend (tVar 2) (tCons (tTupU (tCons (tVar 3) (tCons (tVar 8) (tCons (tVar 9) (tCons (tVar 6) (tNil)))))) (tNil)))) (tNext)) (t__law_steps_r1 K))))
def t__law_steps_r2 (K : PySem.W.Frag) : TS :=
  tRet (tVar 2)
def t__law_steps (K : PySem.W.Frag) : TS :=
  tSeq (tAsg (tLstU (tNil)) (gName 2)) (tSeq (tFor (iRng1 (tCons (tCB (uLen K) (tCons (tOp (uIx K) (tVar 0) (tC (.int 1))) (tNil))) (tNil))) (gName 3) (t__law_steps_b1 K)) (t__law_steps_r2 K))
theorem dv__law_steps {P : Program} {w : World} {K : PySem.W.Frag} {mg : Str → Option Value} {b : Heap} {a : Addr} {d : FuncData} {sp : Sp} (F : Fn K mg "_law_steps" s__law_steps_ a d ["town", "shut"])
    (n_range : mg "range" = none)
    (n_len : mg "len" = none)
    (len : ∀ vs H Q E, sp vs H Q E → vs.length = 2)
    (rd : ∀ vs H Q E, sp vs H Q E → run (t__law_steps K) (start N__law_steps vs) H Q) : Keeps P w K mg b CX0 2 a d ["town", "shut"] sp := by
  refine keeps0 F.fn sc__law_steps len fun cdv A o s H vs Q E hr h => ⟨t__law_steps K, ?_, rd vs H Q E h⟩
  unfold t__law_steps t__law_steps_r2 t__law_steps_b1 t__law_steps_r1
  exact (pss_cons (ps_set (i := 2) sc__law_steps.nd rfl (.inl rfl) (pe_lstU pa_nil))
  (pss_cons (ps_for PassesOwn.never rfl (pi_range1 (by rfl) n_range (pa_cons (pe_callB call_uLen (by rfl) n_len (by decide +kernel) (pa_cons (pe_ix ix_u (pv 0) pe_int (fun _ _ => rfl)) pa_nil)) pa_nil)) (pg_name (i := 3) sc__law_steps.nd rfl (.inl rfl)) (pss_cons (ps_asg (pe_ix ix_u (pe_ix ix_u (pv 0) pe_int (fun _ _ => rfl)) (pv 3) (fun _ _ => rfl)) (pg_tup rfl (pgs_cons (pg_name (i := 4) sc__law_steps.nd rfl (.inl rfl)) (pgs_cons (pg_name (i := 5) sc__law_steps.nd rfl (.inl rfl)) (pgs_cons (pg_name (i := 6) sc__law_steps.nd rfl (.inl rfl)) (pgs_cons (pg_name (i := 7) sc__law_steps.nd rfl (.inl rfl)) pgs_nil))))))
  (pss_cons (ps_set (i := 8) sc__law_steps.nd rfl (.inl rfl) (pe_idx (pe_ix ix_u (pv 0) pe_int (fun _ _ => rfl)) (pa_cons (pv 4) pa_nil)))
  (pss_cons (ps_set (i := 9) sc__law_steps.nd rfl (.inl rfl) (pe_idx (pe_ix ix_u (pv 0) pe_int (fun _ _ => rfl)) (pa_cons (pv 5) pa_nil)))
  (pss_cons (ps_if (PW.pt (pw_and (pt_cmpR op_uNotIn (pv 3) (pv 1) rfl) (pw_and1 (pt_cmpR op_notN (pv 6) pe_non (nomark _))))) (pss_one (ps_expr (pe_bm PySem.F.plainAttrs_list PySem.F.slot_list_append PySem.F.type_list_append mt_uAppend (pv 2) (pa_cons (pe_tupU (pa_cons (pv 3) (pa_cons (pv 8) (pa_cons (pv 9) (pa_cons (pv 6) pa_nil))))) pa_nil)))) pss_nil)
  (pss_one (ps_if (PW.pt (pw_and (pt_cmpR op_uNotIn (pv 3) (pv 1) rfl) (pw_and1 (pt_cmpR op_notN (pv 7) pe_non (nomark _))))) (pss_one (ps_expr (pe_bm PySem.F.plainAttrs_list PySem.F.slot_list_append PySem.F.type_list_append mt_uAppend (pv 2) (pa_cons (pe_tupU (pa_cons (pv 3) (pa_cons (pv 9) (pa_cons (pv 8) (pa_cons (pv 7) pa_nil))))) pa_nil)))) pss_nil)))))))
  (pss_one (ps_ret (pv 2)))))

abbrev s__law_chart_ : Stmt := topS 23
abbrev N__law_chart : List Str := ["town", "shut", "many", "rows", "goal", "here", "number", "there", "minutes", "mid", "total", "row"]
theorem sc__law_chart : FnScope N__law_chart ["town", "shut"] (defScope s__law_chart_) := ⟨rfl, rfl, rfl, by decide +kernel, rfl, by decide +kernel, by decide +kernel⟩
def t__law_chart_b1 (K : PySem.W.Frag) (s__law_steps : Sp) : TS :=
  tDrop (tBM K "list" uAppend (tVar 3) (tCons (tLc (iRng1 (tCons (tVar 2) (tNil))) (gName 5) (tYes) (tOp (uIx K) (tLstU (tCons (tC .non) (tCons (tC (.int 0)) (tNil)))) (tCB (uInt) (tCons (tOp (uEq K false) (tVar 5) (tVar 4)) (tNil)))) [5]) (tNil)))
def t__law_chart_b2 (K : PySem.W.Frag) (s__law_steps : Sp) : TS :=
  tIfS (tOr (tTest (tOp rIsN (tOp (uIx K) (tOp (uIx K) (tVar 3) (tVar 7)) (tVar 5)) (tC .non))) (tTest (tOp (rI0 fun i j => .bl (decide (j < i))) (tOp (uIx K) (tOp (uIx K) (tVar 3) (tVar 7)) (tVar 5)) (tVar 8)))) (tAsg (tVar 8) (gSub (tOp (uIx K) (tVar 3) (tVar 7)) (tVar 5) uSetL)) (tNext)
def t__law_chart_b3 (K : PySem.W.Frag) (s__law_steps : Sp) : TS :=
  tIfS (tAnd (tTest (tOp rNotN (tOp (uIx K) (tOp (uIx K) (tVar 3) (tVar 9)) (tVar 5)) (tC .non))) (tTest (tOp rNotN (tOp (uIx K) (tOp (uIx K) (tVar 3) (tVar 4)) (tVar 9)) (tC .non)))) (tSeq (tAsg (tOp (uAdd K) (tOp (uIx K) (tOp (uIx K) (tVar 3) (tVar 9)) (tVar 5)) (tOp (uIx K) (tOp (uIx K) (tVar 3) (tVar 4)) (tVar 9))) (gName 10)) (tIfS (tOr (tTest (tOp rIsN (tOp (uIx K) (tOp (uIx K) (tVar 3) (tVar 4)) (tVar 5)) (tC .non))) (tTest (tOp (rI0 fun i j => .bl (decide (j < i))) (tOp (uIx K) (tOp (uIx K) (tVar 3) (tVar 4)) (tVar 5)) (tVar 10)))) (tAsg (tVar 10) (gSub (tOp (uIx K) (tVar 3) (tVar 4)) (tVar 5) uSetL)) (tNext))) (tNext)
def t__law_chart_b4 (K : PySem.W.Frag) (s__law_steps : Sp) : TS :=
  tFor (iRng1 (tCons (tVar 2) (tNil))) (gName 5) (t__law_chart_b3 K s__law_steps)
def t__law_chart_b5 (K : PySem.W.Frag) (s__law_steps : Sp) : TS :=
  tFor (iRng1 (tCons (tVar 2) (tNil))) (gName 4) (t__law_chart_b4 K s__law_steps)
def t__law_chart_r1 (K : PySem.W.Frag) (s__law_steps : Sp) : TS :=
  tRet (tCB (uTuple K) (tCons (tLc (iU K (tVar 3)) (gName 11) (tYes) (tCB (uTuple K) (tCons (tVar 11) (tNil))) [11]) (tNil)))
def t__law_chart_r2 (K : PySem.W.Frag) (s__law_steps : Sp) : TS :=
  tSeq (tFor (iRng1 (tCons (tVar 2) (tNil))) (gName 9) (t__law_chart_b5 K s__law_steps)) (t__law_chart_r1 K s__law_steps)
def t__law_chart_r3 (K : PySem.W.Frag) (s__law_steps : Sp) : TS :=
  tSeq (tFor (iU K (tGo s__law_steps E0 (tCons (tVar 0) (tCons (tVar 1) (tNil))))) (gTup K 4 (gCons (gName 6) (gCons (gName 5) (gCons (gName 7) (gCons (gName 8) (gNil)))))) (t__law_chart_b2 K s__law_steps)) (t__law_chart_r2 K s__law_steps)
def t__law_chart (K : PySem.W.Frag) (s__law_steps : Sp) : TS :=
  tSeq (tAsg (tCB (uLen K) (tCons (tOp (uIx K) (tVar 0) (tC (.int 0))) (tNil))) (gName 2)) (tSeq (tAsg (tLstU (tNil)) (gName 3)) (tSeq (tFor (iRng1 (tCons (tVar 2) (tNil))) (gName 4) (t__law_chart_b1 K s__law_steps)) (t__law_chart_r3 K s__law_steps)))
theorem dv__law_chart {P : Program} {w : World} {K : PySem.W.Frag} {mg : Str → Option Value} {b : Heap} {a : Addr} {d : FuncData} {sp : Sp} (F : Fn K mg "_law_chart" s__law_chart_ a d ["town", "shut"])
    (n_len : mg "len" = none)
    (n_range : mg "range" = none)
    (n_int : mg "int" = none)
    {a__law_steps : Addr} {d__law_steps : FuncData} {s__law_steps : Sp} (F__law_steps : Fn K mg "_law_steps" s__law_steps_ a__law_steps d__law_steps ["town", "shut"]) (k__law_steps : Keeps P w K mg b CX0 2 a__law_steps d__law_steps ["town", "shut"] s__law_steps)
    (n_tuple : mg "tuple" = none)
    (len : ∀ vs H Q E, sp vs H Q E → vs.length = 2)
    (rd : ∀ vs H Q E, sp vs H Q E → run (t__law_chart K s__law_steps) (start N__law_chart vs) H Q) : Keeps P w K mg b CX0 3 a d ["town", "shut"] sp := by
  refine keeps0 F.fn sc__law_chart len fun cdv A o s H vs Q E hr h => ⟨t__law_chart K s__law_steps, ?_, rd vs H Q E h⟩
  unfold t__law_chart t__law_chart_r3 t__law_chart_r2 t__law_chart_r1 t__law_chart_b5 t__law_chart_b4 t__law_chart_b3 t__law_chart_b2 t__law_chart_b1
  exact (pss_cons (ps_set (i := 2) sc__law_chart.nd rfl (.inl rfl) (pe_callB call_uLen (by rfl) n_len (by decide +kernel) (pa_cons (pe_ix ix_u (pv 0) pe_int (fun _ _ => rfl)) pa_nil)))
  (pss_cons (ps_set (i := 3) sc__law_chart.nd rfl (.inl rfl) (pe_lstU pa_nil))
  (pss_cons (ps_for PassesOwn.never rfl (pi_range1 (by rfl) n_range (pa_cons (pv 2) pa_nil)) (pg_name (i := 4) sc__law_chart.nd rfl (.inr rfl)) (pss_one (ps_expr (pe_bm PySem.F.plainAttrs_list PySem.F.slot_list_append PySem.F.type_list_append mt_uAppend (pv 3) (pa_cons (pe_lc (own := [("here", 5)]) rfl sc__law_chart.nd (pi_range1 (by rfl) n_range (pa_cons (pv 2) pa_nil)) (blkOk_by (own := [("here", 5)]) (N := N__law_chart) (sc := defScope s__law_chart_) (by decide +kernel)) (fun _ _ _ _ _ => (pg_name (i := 5) sc__law_chart.nd rfl (.inl rfl))) (fun _ _ _ _ _ => pts_nil) (fun _ _ _ _ _ => (pe_ix ix_u (pe_lstU (pa_cons pe_non (pa_cons pe_int pa_nil))) (pe_callTy call_uInt (by rfl) n_int (by decide +kernel) (pa_cons (pe_cmpR (op_uEq hr.rm.units) (pv 5) (pv 4) (nomark _)) pa_nil)) (fun _ _ => rfl)))) pa_nil)))))
  (pss_cons (ps_for PassesOwn.never rfl (pi_u (pe_go k__law_steps (hr.mono (by decide)) rfl F__law_steps.g F__law_steps.fn.kp F__law_steps.b pass0 (pa_cons (pv 0) (pa_cons (pv 1) pa_nil)))) (pg_tup rfl (pgs_cons (pg_name (i := 6) sc__law_chart.nd rfl (.inl rfl)) (pgs_cons (pg_name (i := 5) sc__law_chart.nd rfl (.inl rfl)) (pgs_cons (pg_name (i := 7) sc__law_chart.nd rfl (.inl rfl)) (pgs_cons (pg_name (i := 8) sc__law_chart.nd rfl (.inl rfl)) pgs_nil))))) (pss_one (ps_if (PW.pt (pw_or (pt_cmpR op_isN (pe_ix ix_u (pe_ix ix_u (pv 3) (pv 7) (fun _ _ => rfl)) (pv 5) (fun _ _ => rfl)) pe_non (nomark _)) (pw_or1 (pt_cmpR op_gt (pe_ix ix_u (pe_ix ix_u (pv 3) (pv 7) (fun _ _ => rfl)) (pv 5) (fun _ _ => rfl)) (pv 8) (nomark _))))) (pss_one (ps_asg (pv 8) (pg_sub (pe_ix ix_u (pv 3) (pv 7) (fun _ _ => rfl)) (pv 5) set_u))) pss_nil)))
  (pss_cons (ps_for PassesOwn.never rfl (pi_range1 (by rfl) n_range (pa_cons (pv 2) pa_nil)) (pg_name (i := 9) sc__law_chart.nd rfl (.inl rfl)) (pss_one (ps_for PassesOwn.never rfl (pi_range1 (by rfl) n_range (pa_cons (pv 2) pa_nil)) (pg_name (i := 4) sc__law_chart.nd rfl (.inr rfl)) (pss_one (ps_for PassesOwn.never rfl (pi_range1 (by rfl) n_range (pa_cons (pv 2) pa_nil)) (pg_name (i := 5) sc__law_chart.nd rfl (.inl rfl)) (pss_one (ps_if (PW.pt (pw_and (pt_cmpR op_notN (pe_ix ix_u (pe_ix ix_u (pv 3) (pv 9) (fun _ _ => rfl)) (pv 5) (fun _ _ => rfl)) pe_non (nomark _)) (pw_and1 (pt_cmpR op_notN (pe_ix ix_u (pe_ix ix_u (pv 3) (pv 4) (fun _ _ => rfl)) (pv 9) (fun _ _ => rfl)) pe_non (nomark _))))) (pss_cons (ps_set (i := 10) sc__law_chart.nd rfl (.inl rfl) (pe_op op_uAdd (pe_ix ix_u (pe_ix ix_u (pv 3) (pv 9) (fun _ _ => rfl)) (pv 5) (fun _ _ => rfl)) (pe_ix ix_u (pe_ix ix_u (pv 3) (pv 4) (fun _ _ => rfl)) (pv 9) (fun _ _ => rfl))))
  (pss_one (ps_if (PW.pt (pw_or (pt_cmpR op_isN (pe_ix ix_u (pe_ix ix_u (pv 3) (pv 4) (fun _ _ => rfl)) (pv 5) (fun _ _ => rfl)) pe_non (nomark _)) (pw_or1 (pt_cmpR op_gt (pe_ix ix_u (pe_ix ix_u (pv 3) (pv 4) (fun _ _ => rfl)) (pv 5) (fun _ _ => rfl)) (pv 10) (nomark _))))) (pss_one (ps_asg (pv 10) (pg_sub (pe_ix ix_u (pv 3) (pv 4) (fun _ _ => rfl)) (pv 5) set_u))) pss_nil))) pss_nil)))))))
  (pss_one (ps_ret (pe_callTy call_uTuple (by rfl) n_tuple (by decide +kernel) (pa_cons (pe_lc (own := [("row", 11)]) rfl sc__law_chart.nd (pi_u (pv 3)) (blkOk_by (own := [("row", 11)]) (N := N__law_chart) (sc := defScope s__law_chart_) (by decide +kernel)) (fun _ _ _ _ _ => (pg_name (i := 11) sc__law_chart.nd rfl (.inl rfl))) (fun _ _ _ _ _ => pts_nil) (fun _ _ _ _ _ => (pe_callTy call_uTuple (by rfl) n_tuple (by decide +kernel) (pa_cons (pv 11) pa_nil)))) pa_nil)))))))))

abbrev s__law_task_ : Stmt := topS 24
abbrev N__law_task : List Str := ["row", "now", "calls", "left", "moment", "mode", "name", "place", "call"]
theorem sc__law_task : FnScope N__law_task ["row", "now", "calls", "left"] (defScope s__law_task_) := ⟨rfl, rfl, rfl, by decide +kernel, rfl, by decide +kernel, by decide +kernel⟩
def t__law_task_r1 (K : PySem.W.Frag) : TS :=
  tRet (tTupU (tCons (tC .non) (tCons (tVar 4) (tCons (tTupU (tCons (tC (.str "to")) (tCons (tVar 6) (tNil)))) (tNil)))))
def t__law_task_r2 (K : PySem.W.Frag) : TS :=
  tSeq (tAsg (tBM K "list" uPopAt (tVar 3) (tCons (tOp (rI (fun _ j => 0 < j) fun i j => .int (i % j)) (tOp (uIx K) (tVar 0) (tC (.int 5))) (tCB (uLen K) (tCons (tVar 3) (tNil)))) (tNil))) (gName 6)) (tSeq (tIfS (tTest (tOp (uEq K false) (tVar 5) (tC (.int 1)))) (tSeq (tAsg (tOp (uIx K) (tLc (iU K (tVar 2)) (gName 8) (tTest (tOp (uEq K false) (tOp (uIx K) (tVar 8) (tC (.int 0))) (tVar 6))) (tOp (uIx K) (tVar 8) (tC (.int 1))) [8]) (tC (.int 0))) (gName 7)) (tRet (tTupU (tCons (tVar 7) (tCons (tCB uMin2 (tCons (tVar 4) (tCons (tVar 1) (tNil)))) (tCons (tTupU (tCons (tC (.str "at")) (tCons (tVar 6) (tNil)))) (tNil))))))) (tNext)) (t__law_task_r1 K))
def t__law_task (K : PySem.W.Frag) : TS :=
  tSeq (tAsg (tCB uMax2 (tCons (tC (.int 0)) (tCons (tOp (uAdd K) (tVar 1) (tOp (uIx K) (tLstU (tCons (tC (.int 0)) (tCons (tOp (rI (fun _ j => 0 < j) fun i j => .int (i % j)) (tOp (uIx K) (tVar 0) (tC (.int 2))) (tC (.int 9))) (tCons (tOp (rI (fun _ j => 0 < j) fun i j => .int (i % j)) (tOp (uIx K) (tVar 0) (tC (.int 2))) (tC (.int 121))) (tCons (tOp (rI0 fun i j => .int (i - j)) (tC (.int 0)) (tOp (rI (fun _ j => 0 < j) fun i j => .int (i % j)) (tOp (uIx K) (tVar 0) (tC (.int 2))) (tC (.int 9)))) (tCons (tOp (rI0 fun i j => .int (i - j)) (tOp (rI (fun _ j => 0 < j) fun i j => .int (i % j)) (tOp (uIx K) (tVar 0) (tC (.int 2))) (tC (.int 3))) (tC (.int 1))) (tNil))))))) (tOp (rI (fun _ j => 0 < j) fun i j => .int (i % j)) (tOp (uIx K) (tVar 0) (tC (.int 3))) (tC (.int 5))))) (tNil)))) (gName 4)) (tSeq (tAsg (tOp (rI (fun _ j => 0 < j) fun i j => .int (i % j)) (tOp (uIx K) (tVar 0) (tC (.int 4))) (tC (.int 4))) (gName 5)) (tSeq (tIfS (tOr (tTest (tOp (uEq K false) (tVar 5) (tC (.int 0)))) (tTest (tOp (uEq K false) (tVar 3) (tLstU (tNil))))) (tRet (tTupU (tCons (tC .non) (tCons (tVar 4) (tCons (tTupU (tCons (tC (.str "free")) (tNil))) (tNil)))))) (tNext)) (t__law_task_r2 K)))
theorem dv__law_task {P : Program} {w : World} {K : PySem.W.Frag} {mg : Str → Option Value} {b : Heap} {a : Addr} {d : FuncData} {sp : Sp} (F : Fn K mg "_law_task" s__law_task_ a d ["row", "now", "calls", "left"])
    (n_max : mg "max" = none)
    (n_len : mg "len" = none)
    (n_min : mg "min" = none)
    (len : ∀ vs H Q E, sp vs H Q E → vs.length = 4)
    (rd : ∀ vs H Q E, sp vs H Q E → run (t__law_task K) (start N__law_task vs) H Q) : Keeps P w K mg b CX0 2 a d ["row", "now", "calls", "left"] sp := by
  refine keeps0 F.fn sc__law_task len fun cdv A o s H vs Q E hr h => ⟨t__law_task K, ?_, rd vs H Q E h⟩
  unfold t__law_task t__law_task_r2 t__law_task_r1
  exact (pss_cons (ps_set (i := 4) sc__law_task.nd rfl (.inl rfl) (pe_callB (call_uMax2 rfl) (by rfl) n_max (by decide +kernel) (pa_cons pe_int (pa_cons (pe_op op_uAdd (pv 1) (pe_ix ix_u (pe_lstU (pa_cons pe_int (pa_cons (pe_op op_mod (pe_ix ix_u (pv 0) pe_int (fun _ _ => rfl)) pe_int) (pa_cons (pe_op op_mod (pe_ix ix_u (pv 0) pe_int (fun _ _ => rfl)) pe_int) (pa_cons (pe_op op_sub pe_int (pe_op op_mod (pe_ix ix_u (pv 0) pe_int (fun _ _ => rfl)) pe_int)) (pa_cons (pe_op op_sub (pe_op op_mod (pe_ix ix_u (pv 0) pe_int (fun _ _ => rfl)) pe_int) pe_int) pa_nil)))))) (pe_op op_mod (pe_ix ix_u (pv 0) pe_int (fun _ _ => rfl)) pe_int) (fun _ _ => rfl))) pa_nil))))
  (pss_cons (ps_set (i := 5) sc__law_task.nd rfl (.inl rfl) (pe_op op_mod (pe_ix ix_u (pv 0) pe_int (fun _ _ => rfl)) pe_int))
  (pss_cons (ps_if (PW.pt (pw_or (pt_cmpR (op_uEq hr.rm.units) (pv 5) pe_int (nomark _)) (pw_or1 (pt_cmpR (op_uEq hr.rm.units) (pv 3) (pe_lstU pa_nil) (nomark _))))) (pss_one (ps_ret (pe_tupU (pa_cons pe_non (pa_cons (pv 4) (pa_cons (pe_tupU (pa_cons pe_str pa_nil)) pa_nil)))))) pss_nil)
  (pss_cons (ps_set (i := 6) sc__law_task.nd rfl (.inr rfl) (pe_bm PySem.F.plainAttrs_list PySem.F.slot_list_pop PySem.F.type_list_pop mt_uPopAt (pv 3) (pa_cons (pe_op op_mod (pe_ix ix_u (pv 0) pe_int (fun _ _ => rfl)) (pe_callB call_uLen (by rfl) n_len (by decide +kernel) (pa_cons (pv 3) pa_nil))) pa_nil)))
  (pss_cons (ps_if (pt_cmpR (op_uEq hr.rm.units) (pv 5) pe_int (nomark _)) (pss_cons (ps_set (i := 7) sc__law_task.nd rfl (.inl rfl) (pe_ix ix_u (pe_lc (own := [("call", 8)]) rfl sc__law_task.nd (pi_u (pv 2)) (blkOk_by (own := [("call", 8)]) (N := N__law_task) (sc := defScope s__law_task_) (by decide +kernel)) (fun _ _ _ _ _ => (pg_name (i := 8) sc__law_task.nd rfl (.inl rfl))) (fun _ _ _ _ _ => (pts_one (pt_cmpR (op_uEq hr.rm.units) (pe_ix ix_u (pv 8) pe_int (fun _ _ => rfl)) (pv 6) (nomark _)))) (fun _ _ _ _ _ => (pe_ix ix_u (pv 8) pe_int (fun _ _ => rfl)))) pe_int (fun _ _ => rfl)))
  (pss_one (ps_ret (pe_tupU (pa_cons (pv 7) (pa_cons (pe_callB (call_uMin2 rfl) (by rfl) n_min (by decide +kernel) (pa_cons (pv 4) (pa_cons (pv 1) pa_nil))) (pa_cons (pe_tupU (pa_cons pe_str (pa_cons (pv 6) pa_nil))) pa_nil))))))) pss_nil)
  (pss_one (ps_ret (pe_tupU (pa_cons pe_non (pa_cons (pv 4) (pa_cons (pe_tupU (pa_cons pe_str (pa_cons (pv 6) pa_nil))) pa_nil)))))))))))

abbrev s__law_scene_ : Stmt := topS 25
abbrev N__law_scene : List Str := ["script", "town", "row", "names", "now", "calls", "k", "some", "grade", "since", "left", "wagons", "place", "moment", "task", "home", "post", "call"]
theorem sc__law_scene : FnScope N__law_scene ["script"] (defScope s__law_scene_) := ⟨rfl, rfl, rfl, by decide +kernel, rfl, by decide +kernel, by decide +kernel⟩
def t__law_scene_b1 (K : PySem.W.Frag) (s__law_town : Sp) (s__law_row : Sp) (s__law_cell_at : Sp) (s__law_names : Sp) (s__law_task : Sp) : TS :=
  tSeq (tAsg (tGo s__law_row E0 (tCons (tGo s__law_cell_at E0 (tCons (tVar 0) (tCons (tOp (uAdd K) (tC (.int 26)) (tVar 6)) (tNil)))) (tCons (tC (.int 6)) (tNil)))) (gName 7)) (tSeq (tAsg (tOp (uAdd K) (tC (.int 1)) (tOp (rI (fun _ j => 0 < j) fun i j => .int (i % j)) (tOp (uIx K) (tVar 7) (tC (.int 1))) (tOp (uIx K) (tLstU (tCons (tC (.int 5)) (tCons (tC (.int 2)) (tCons (tC (.int 1)) (tNil))))) (tOp (rI (fun _ j => 0 < j) fun i j => .int (i % j)) (tOp (uIx K) (tVar 2) (tC (.int 15))) (tC (.int 3)))))) (gName 8)) (tSeq (tAsg (tOp (uIx K) (tLstU (tCons (tCB uMax2 (tCons (tC (.int 0)) (tCons (tOp (rI0 fun i j => .int (i - j)) (tVar 4) (tOp (rI (fun _ j => 0 < j) fun i j => .int (i % j)) (tOp (uIx K) (tVar 7) (tC (.int 2))) (tC (.int 3)))) (tNil)))) (tCons (tOp (rI (fun _ j => 0 < j) fun i j => .int (i % j)) (tOp (uIx K) (tVar 7) (tC (.int 2))) (tOp (uAdd K) (tVar 4) (tC (.int 1)))) (tCons (tVar 4) (tNil))))) (tOp (rI (fun _ j => 0 < j) fun i j => .int (i % j)) (tOp (uIx K) (tVar 7) (tC (.int 3))) (tC (.int 3)))) (gName 9)) (tDrop (tBM K "list" uAppend (tVar 5) (tCons (tTupU (tCons (tOp (uIx K) (tVar 3) (tVar 6)) (tCons (tOp (uIx K) (tOp (uIx K) (tVar 1) (tC (.int 0))) (tOp (rI (fun _ j => 0 < j) fun i j => .int (i % j)) (tOp (uIx K) (tVar 7) (tC (.int 0))) (tCB (uLen K) (tCons (tOp (uIx K) (tVar 1) (tC (.int 0))) (tNil))))) (tCons (tVar 8) (tCons (tVar 9) (tNil)))))) (tNil))))))
def t__law_scene_b2 (K : PySem.W.Frag) (s__law_town : Sp) (s__law_row : Sp) (s__law_cell_at : Sp) (s__law_names : Sp) (s__law_task : Sp) : TS :=
  tSeq (tAsg (tGo s__law_row E0 (tCons (tGo s__law_cell_at E0 (tCons (tVar 0) (tCons (tOp (uAdd K) (tC (.int 21)) (tVar 6)) (tNil)))) (tCons (tC (.int 10)) (tNil)))) (gName 7)) (tSeq (tAsg (tGo s__law_task E0 (tCons (tVar 7) (tCons (tVar 4) (tCons (tVar 5) (tCons (tVar 10) (tNil)))))) (gTup K 3 (gCons (gName 12) (gCons (gName 13) (gCons (gName 14) (gNil)))))) (tSeq (tAsg (tOrT K (tVar 12) (tOp (uIx K) (tOp (uIx K) (tVar 1) (tC (.int 0))) (tOp (rI (fun _ j => 0 < j) fun i j => .int (i % j)) (tOp (uIx K) (tVar 7) (tC (.int 0))) (tCB (uLen K) (tCons (tOp (uIx K) (tVar 1) (tC (.int 0))) (tNil)))))) (gName 12)) (tSeq (tAsg (tOp (uIx K) (tOp (uIx K) (tVar 1) (tC (.int 2))) (tOp (rI (fun _ j => 0 < j) fun i j => .int (i % j)) (tOp (uIx K) (tVar 7) (tC (.int 7))) (tCB (uLen K) (tCons (tOp (uIx K) (tVar 1) (tC (.int 2))) (tNil))))) (gName 15)) (tSeq (tAsg (tOp (uIx K) (tLstU (tCons (tVar 15) (tCons (tOp (uIx K) (tOp (uIx K) (tVar 1) (tC (.int 0))) (tOp (rI (fun _ j => 0 < j) fun i j => .int (i % j)) (tOp (uIx K) (tVar 7) (tC (.int 6))) (tCB (uLen K) (tCons (tOp (uIx K) (tVar 1) (tC (.int 0))) (tNil))))) (tNil)))) (tOp (rI (fun _ j => 0 < j) fun i j => .int (i % j)) (tOp (uIx K) (tVar 7) (tC (.int 8))) (tC (.int 2)))) (gName 16)) (tDrop (tBM K "list" uAppend (tVar 11) (tCons (tTupU (tCons (tOp (uIx K) (tVar 3) (tOp (rI (fun _ j => 0 < j) fun i j => .int (i % j)) (tOp (uAdd K) (tOp (uIx K) (tVar 2) (tC (.int 17))) (tVar 6)) (tC (.int 15)))) (tCons (tVar 15) (tCons (tVar 16) (tCons (tVar 12) (tCons (tVar 13) (tCons (tVar 14) (tNil)))))))) (tNil))))))))
def t__law_scene_r1 (K : PySem.W.Frag) (s__law_town : Sp) (s__law_row : Sp) (s__law_cell_at : Sp) (s__law_names : Sp) (s__law_task : Sp) : TS :=
  tRet (tTupU (tCons (tVar 1) (tCons (tVar 4) (tCons (tCB (uSorted K) (tCons (tVar 11) (tNil))) (tCons (tCB (uSorted K) (tCons (tVar 5) (tNil))) (tNil))))))
def t__law_scene_r2 (K : PySem.W.Frag) (s__law_town : Sp) (s__law_row : Sp) (s__law_cell_at : Sp) (s__law_names : Sp) (s__law_task : Sp) : TS :=
  tSeq (tAsg (tLc (iU K (tVar 5)) (gName 17) (tYes) (tOp (uIx K) (tVar 17) (tC (.int 0))) [17]) (gName 10)) (tSeq (tAsg (tLstU (tNil)) (gName 11)) (tSeq (tFor (iRng1 (tCons (tOp (rI (fun _ j => 0 < j) fun i j => .int (i % j)) (tOp (uIx K) (tVar 2) (tC (.int 16))) (tC (.int 6))) (tNil))) (gName 6) (t__law_scene_b2 K s__law_town s__law_row s__law_cell_at s__law_names s__law_task)) (t__law_scene_r1 K s__law_town s__law_row s__law_cell_at s__law_names s__law_task)))
def t__law_scene (K : PySem.W.Frag) (s__law_town : Sp) (s__law_row : Sp) (s__law_cell_at : Sp) (s__law_names : Sp) (s__law_task : Sp) : TS :=
  tSeq (tAsg (tGo s__law_town E0 (tCons (tVar 0) (tCons (tC (.int 0)) (tNil)))) (gName 1)) (tSeq (tAsg (tGo s__law_row E0 (tCons (tGo s__law_cell_at E0 (tCons (tVar 0) (tCons (tC (.int 20)) (tNil)))) (tCons (tC (.int 20)) (tNil)))) (gName 2)) (tSeq (tAsg (tGo s__law_names E0 (tCons (tVar 2) (tCons (tC (.int 15)) (tNil)))) (gName 3)) (tSeq (tAsg (tOp (uIx K) (tLstU (tCons (tOp (rI (fun _ j => 0 < j) fun i j => .int (i % j)) (tOp (uIx K) (tVar 2) (tC (.int 12))) (tC (.int 30))) (tCons (tOp (uIx K) (tVar 2) (tC (.int 12))) (tCons (tOp (rI CPow fun i j => .int (i ^ j.toNat)) (tC (.int 10)) (tC (.int 6))) (tNil))))) (tOp (rI (fun _ j => 0 < j) fun i j => .int (i % j)) (tOp (uIx K) (tVar 2) (tC (.int 13))) (tC (.int 3)))) (gName 4)) (tSeq (tAsg (tLstU (tNil)) (gName 5)) (tSeq (tFor (iRng1 (tCons (tOp (rI (fun _ j => 0 < j) fun i j => .int (i % j)) (tOp (uIx K) (tVar 2) (tC (.int 14))) (tC (.int 11))) (tNil))) (gName 6) (t__law_scene_b1 K s__law_town s__law_row s__law_cell_at s__law_names s__law_task)) (t__law_scene_r2 K s__law_town s__law_row s__law_cell_at s__law_names s__law_task))))))
theorem dv__law_scene {P : Program} {w : World} {K : PySem.W.Frag} {mg : Str → Option Value} {b : Heap} {a : Addr} {d : FuncData} {sp : Sp} (F : Fn K mg "_law_scene" s__law_scene_ a d ["script"])
    {a__law_town : Addr} {d__law_town : FuncData} {s__law_town : Sp} (F__law_town : Fn K mg "_law_town" s__law_town_ a__law_town d__law_town ["script", "start"]) (k__law_town : Keeps P w K mg b CX0 3 a__law_town d__law_town ["script", "start"] s__law_town)
    {a__law_row : Addr} {d__law_row : FuncData} {s__law_row : Sp} (F__law_row : Fn K mg "_law_row" s__law_row_ a__law_row d__law_row ["cell", "many"]) (k__law_row : Keeps P w K mg b CX0 2 a__law_row d__law_row ["cell", "many"] s__law_row)
    {a__law_cell_at : Addr} {d__law_cell_at : FuncData} {s__law_cell_at : Sp} (F__law_cell_at : Fn K mg "_law_cell_at" s__law_cell_at_ a__law_cell_at d__law_cell_at ["script", "k"]) (k__law_cell_at : Keeps P w K mg b CX0 2 a__law_cell_at d__law_cell_at ["script", "k"] s__law_cell_at)
    {a__law_names : Addr} {d__law_names : FuncData} {s__law_names : Sp} (F__law_names : Fn K mg "_law_names" s__law_names_ a__law_names d__law_names ["row", "many"]) (k__law_names : Keeps P w K mg b CX0 2 a__law_names d__law_names ["row", "many"] s__law_names)
    (n_range : mg "range" = none)
    (n_max : mg "max" = none)
    (n_len : mg "len" = none)
    {a__law_task : Addr} {d__law_task : FuncData} {s__law_task : Sp} (F__law_task : Fn K mg "_law_task" s__law_task_ a__law_task d__law_task ["row", "now", "calls", "left"]) (k__law_task : Keeps P w K mg b CX0 2 a__law_task d__law_task ["row", "now", "calls", "left"] s__law_task)
    (n_sorted : mg "sorted" = none)
    (len : ∀ vs H Q E, sp vs H Q E → vs.length = 1)
    (rd : ∀ vs H Q E, sp vs H Q E → run (t__law_scene K s__law_town s__law_row s__law_cell_at s__law_names s__law_task) (start N__law_scene vs) H Q) : Keeps P w K mg b CX0 4 a d ["script"] sp := by
  refine keeps0 F.fn sc__law_scene len fun cdv A o s H vs Q E hr h => ⟨t__law_scene K s__law_town s__law_row s__law_cell_at s__law_names s__law_task, ?_, rd vs H Q E h⟩
  unfold t__law_scene t__law_scene_r2 t__law_scene_r1 t__law_scene_b2 t__law_scene_b1
  exact (pss_cons (ps_set (i := 1) sc__law_scene.nd rfl (.inl rfl) (pe_go k__law_town (hr.mono (by decide)) rfl F__law_town.g F__law_town.fn.kp F__law_town.b pass0 (pa_cons (pv 0) (pa_cons pe_int pa_nil))))
  (pss_cons (ps_set (i := 2) sc__law_scene.nd rfl (.inl rfl) (pe_go k__law_row (hr.mono (by decide)) rfl F__law_row.g F__law_row.fn.kp F__law_row.b pass0 (pa_cons (pe_go k__law_cell_at (hr.mono (by decide)) rfl F__law_cell_at.g F__law_cell_at.fn.kp F__law_cell_at.b pass0 (pa_cons (pv 0) (pa_cons pe_int pa_nil))) (pa_cons pe_int pa_nil))))
  (pss_cons (ps_set (i := 3) sc__law_scene.nd rfl (.inl rfl) (pe_go k__law_names (hr.mono (by decide)) rfl F__law_names.g F__law_names.fn.kp F__law_names.b pass0 (pa_cons (pv 2) (pa_cons pe_int pa_nil))))
  (pss_cons (ps_set (i := 4) sc__law_scene.nd rfl (.inl rfl) (pe_ix ix_u (pe_lstU (pa_cons (pe_op op_mod (pe_ix ix_u (pv 2) pe_int (fun _ _ => rfl)) pe_int) (pa_cons (pe_ix ix_u (pv 2) pe_int (fun _ _ => rfl)) (pa_cons (pe_op op_pow pe_int pe_int) pa_nil)))) (pe_op op_mod (pe_ix ix_u (pv 2) pe_int (fun _ _ => rfl)) pe_int) (fun _ _ => rfl)))
  (pss_cons (ps_set (i := 5) sc__law_scene.nd rfl (.inl rfl) (pe_lstU pa_nil))
  (pss_cons (ps_for PassesOwn.never rfl (pi_range1 (by rfl) n_range (pa_cons (pe_op op_mod (pe_ix ix_u (pv 2) pe_int (fun _ _ => rfl)) pe_int) pa_nil)) (pg_name (i := 6) sc__law_scene.nd rfl (.inl rfl)) (pss_cons (ps_set (i := 7) sc__law_scene.nd rfl (.inl rfl) (pe_go k__law_row (hr.mono (by decide)) rfl F__law_row.g F__law_row.fn.kp F__law_row.b pass0 (pa_cons (pe_go k__law_cell_at (hr.mono (by decide)) rfl F__law_cell_at.g F__law_cell_at.fn.kp F__law_cell_at.b pass0 (pa_cons (pv 0) (pa_cons (pe_op op_uAdd pe_int (pv 6)) pa_nil))) (pa_cons pe_int pa_nil))))
  (pss_cons (ps_set (i := 8) sc__law_scene.nd rfl (.inl rfl) (pe_op op_uAdd pe_int (pe_op op_mod (pe_ix ix_u (pv 7) pe_int (fun _ _ => rfl)) (pe_ix ix_u (pe_lstU (pa_cons pe_int (pa_cons pe_int (pa_cons pe_int pa_nil)))) (pe_op op_mod (pe_ix ix_u (pv 2) pe_int (fun _ _ => rfl)) pe_int) (fun _ _ => rfl)))))
  (pss_cons (ps_set (i := 9) sc__law_scene.nd rfl (.inl rfl) (pe_ix ix_u (pe_lstU (pa_cons (pe_callB (call_uMax2 rfl) (by rfl) n_max (by decide +kernel) (pa_cons pe_int (pa_cons (pe_op op_sub (pv 4) (pe_op op_mod (pe_ix ix_u (pv 7) pe_int (fun _ _ => rfl)) pe_int)) pa_nil))) (pa_cons (pe_op op_mod (pe_ix ix_u (pv 7) pe_int (fun _ _ => rfl)) (pe_op op_uAdd (pv 4) pe_int)) (pa_cons (pv 4) pa_nil)))) (pe_op op_mod (pe_ix ix_u (pv 7) pe_int (fun _ _ => rfl)) pe_int) (fun _ _ => rfl)))
  (pss_one (ps_expr (pe_bm PySem.F.plainAttrs_list PySem.F.slot_list_append PySem.F.type_list_append mt_uAppend (pv 5) (pa_cons (pe_tupU (pa_cons (pe_ix ix_u (pv 3) (pv 6) (fun _ _ => rfl)) (pa_cons (pe_ix ix_u (pe_ix ix_u (pv 1) pe_int (fun _ _ => rfl)) (pe_op op_mod (pe_ix ix_u (pv 7) pe_int (fun _ _ => rfl)) (pe_callB call_uLen (by rfl) n_len (by decide +kernel) (pa_cons (pe_ix ix_u (pv 1) pe_int (fun _ _ => rfl)) pa_nil))) (fun _ _ => rfl)) (pa_cons (pv 8) (pa_cons (pv 9) pa_nil))))) pa_nil))))))))
  (pss_cons (ps_setLc (i := 10) (own := [("call", 17)]) rfl sc__law_scene.nd rfl rfl (sw_true rfl rfl rfl (by decide +kernel)) (pi_u (pv 5)) (blkOk_by (own := [("call", 17)]) (N := N__law_scene) (sc := defScope s__law_scene_) (by decide +kernel)) (fun _ _ _ _ _ => (pg_name (i := 17) sc__law_scene.nd rfl (.inl rfl))) (fun _ _ _ _ _ => pts_nil) (fun _ _ _ _ _ => (pe_ix ix_u (pv 17) pe_int (fun _ _ => rfl))))
  (pss_cons (ps_set (i := 11) sc__law_scene.nd rfl (.inl rfl) (pe_lstU pa_nil))
  (pss_cons (ps_for PassesOwn.never rfl (pi_range1 (by rfl) n_range (pa_cons (pe_op op_mod (pe_ix ix_u (pv 2) pe_int (fun _ _ => rfl)) pe_int) pa_nil)) (pg_name (i := 6) sc__law_scene.nd rfl (.inl rfl)) (pss_cons (ps_set (i := 7) sc__law_scene.nd rfl (.inl rfl) (pe_go k__law_row (hr.mono (by decide)) rfl F__law_row.g F__law_row.fn.kp F__law_row.b pass0 (pa_cons (pe_go k__law_cell_at (hr.mono (by decide)) rfl F__law_cell_at.g F__law_cell_at.fn.kp F__law_cell_at.b pass0 (pa_cons (pv 0) (pa_cons (pe_op op_uAdd pe_int (pv 6)) pa_nil))) (pa_cons pe_int pa_nil))))
  (pss_cons (ps_asg (pe_go k__law_task (hr.mono (by decide)) rfl F__law_task.g F__law_task.fn.kp F__law_task.b pass0 (pa_cons (pv 7) (pa_cons (pv 4) (pa_cons (pv 5) (pa_cons (pv 10) pa_nil))))) (pg_tup rfl (pgs_cons (pg_name (i := 12) sc__law_scene.nd rfl (.inl rfl)) (pgs_cons (pg_name (i := 13) sc__law_scene.nd rfl (.inl rfl)) (pgs_cons (pg_name (i := 14) sc__law_scene.nd rfl (.inl rfl)) pgs_nil)))))
  (pss_cons (ps_set (i := 12) sc__law_scene.nd rfl (.inl rfl) (pe_orT (pv 12) (pe_one (pe_ix ix_u (pe_ix ix_u (pv 1) pe_int (fun _ _ => rfl)) (pe_op op_mod (pe_ix ix_u (pv 7) pe_int (fun _ _ => rfl)) (pe_callB call_uLen (by rfl) n_len (by decide +kernel) (pa_cons (pe_ix ix_u (pv 1) pe_int (fun _ _ => rfl)) pa_nil))) (fun _ _ => rfl)))))
  (pss_cons (ps_set (i := 15) sc__law_scene.nd rfl (.inl rfl) (pe_ix ix_u (pe_ix ix_u (pv 1) pe_int (fun _ _ => rfl)) (pe_op op_mod (pe_ix ix_u (pv 7) pe_int (fun _ _ => rfl)) (pe_callB call_uLen (by rfl) n_len (by decide +kernel) (pa_cons (pe_ix ix_u (pv 1) pe_int (fun _ _ => rfl)) pa_nil))) (fun _ _ => rfl)))
  (pss_cons (ps_set (i := 16) sc__law_scene.nd rfl (.inl rfl) (pe_ix ix_u (pe_lstU (pa_cons (pv 15) (pa_cons (pe_ix ix_u (pe_ix ix_u (pv 1) pe_int (fun _ _ => rfl)) (pe_op op_mod (pe_ix ix_u (pv 7) pe_int (fun _ _ => rfl)) (pe_callB call_uLen (by rfl) n_len (by decide +kernel) (pa_cons (pe_ix ix_u (pv 1) pe_int (fun _ _ => rfl)) pa_nil))) (fun _ _ => rfl)) pa_nil))) (pe_op op_mod (pe_ix ix_u (pv 7) pe_int (fun _ _ => rfl)) pe_int) (fun _ _ => rfl)))
  (pss_one (ps_expr (pe_bm PySem.F.plainAttrs_list PySem.F.slot_list_append PySem.F.type_list_append mt_uAppend (pv 11) (pa_cons (pe_tupU (pa_cons (pe_ix ix_u (pv 3) (pe_op op_mod (pe_op op_uAdd (pe_ix ix_u (pv 2) pe_int (fun _ _ => rfl)) (pv 6)) pe_int) (fun _ _ => rfl)) (pa_cons (pv 15) (pa_cons (pv 16) (pa_cons (pv 12) (pa_cons (pv 13) (pa_cons (pv 14) pa_nil))))))) pa_nil))))))))))
  (pss_one (ps_ret (pe_tupU (pa_cons (pv 1) (pa_cons (pv 4) (pa_cons (pe_callB (call_uSorted hr.rm.units) (by rfl) n_sorted (by decide +kernel) (pa_cons (pv 11) pa_nil)) (pa_cons (pe_callB (call_uSorted hr.rm.units) (by rfl) n_sorted (by decide +kernel) (pa_cons (pv 5) pa_nil)) pa_nil))))))))))))))))

abbrev s__law_one_each_ : Stmt := topS 26
abbrev N__law_one_each : List Str := ["wagons", "calls", "served", "wagon", "name", "call"]
theorem sc__law_one_each : FnScope N__law_one_each ["wagons", "calls"] (defScope s__law_one_each_) := ⟨rfl, rfl, rfl, by decide +kernel, rfl, by decide +kernel, by decide +kernel⟩
def t__law_one_each (K : PySem.W.Frag) : TS :=
  tSeq (tAsg (tLc (iU K (tVar 0)) (gName 3) (tTest (tOp (uEq K true) (tOp (uIx K) (tVar 3) (tC (.int 5))) (tTupU (tCons (tC (.str "free")) (tNil))))) (tOp (uIx K) (tOp (uIx K) (tVar 3) (tC (.int 5))) (tC (.int 1))) [3]) (gName 2)) (tRet (tAndT K (tOp (uEq K false) (tLenTexts K (tVar 2)) (tCB (uLen K) (tCons (tVar 2) (tNil)))) (tCB (rAll K) (tCons (tLc (iU K (tVar 2)) (gName 4) (tYes) (tOp (uIn K false) (tVar 4) (tLc (iU K (tVar 1)) (gName 5) (tYes) (tOp (uIx K) (tVar 5) (tC (.int 0))) [5])) [4]) (tNil)))))
theorem dv__law_one_each {P : Program} {w : World} {K : PySem.W.Frag} {mg : Str → Option Value} {b : Heap} {a : Addr} {d : FuncData} {sp : Sp} (F : Fn K mg "_law_one_each" s__law_one_each_ a d ["wagons", "calls"])
    (n_len : mg "len" = none)
    (n_set : mg "set" = none)
    (n_all : mg "all" = none)
    (len : ∀ vs H Q E, sp vs H Q E → vs.length = 2)
    (rd : ∀ vs H Q E, sp vs H Q E → run (t__law_one_each K) (start N__law_one_each vs) H Q) : Keeps P w K mg b CX0 2 a d ["wagons", "calls"] sp := by
  refine keeps0 F.fn sc__law_one_each len fun cdv A o s H vs Q E hr h => ⟨t__law_one_each K, ?_, rd vs H Q E h⟩
  unfold t__law_one_each 
  exact (pss_cons (ps_setLc (i := 2) (own := [("wagon", 3)]) rfl sc__law_one_each.nd rfl rfl (sw_true rfl rfl rfl (by decide +kernel)) (pi_u (pv 0)) (blkOk_by (own := [("wagon", 3)]) (N := N__law_one_each) (sc := defScope s__law_one_each_) (by decide +kernel)) (fun _ _ _ _ _ => (pg_name (i := 3) sc__law_one_each.nd rfl (.inl rfl))) (fun _ _ _ _ _ => (pts_one (pt_cmpR (op_uNe hr.rm.units) (pe_ix ix_u (pv 3) pe_int (fun _ _ => rfl)) (pe_tupU (pa_cons pe_str pa_nil)) (nomark _)))) (fun _ _ _ _ _ => (pe_ix ix_u (pe_ix ix_u (pv 3) pe_int (fun _ _ => rfl)) pe_int (fun _ _ => rfl))))
  (pss_one (ps_ret (pe_andT (pe_cmpR (op_uEq hr.rm.units) (pe_lenTexts rfl (by rfl) n_len (by rfl) n_set (pv 2)) (pe_callB call_uLen (by rfl) n_len (by decide +kernel) (pa_cons (pv 2) pa_nil)) (nomark _)) (pe_one (pe_callB (cr_all rfl) (by rfl) n_all (by decide +kernel) (pa_cons (pe_lc (own := [("name", 4)]) rfl sc__law_one_each.nd (pi_u (pv 2)) (blkOk_by (own := [("name", 4)]) (N := N__law_one_each) (sc := defScope s__law_one_each_) (by decide +kernel)) (fun _ _ _ _ _ => (pg_name (i := 4) sc__law_one_each.nd rfl (.inl rfl))) (fun _ _ _ _ _ => pts_nil) (fun _ _ _ _ _ => (pe_cmpR op_uIn (pv 4) (pe_lc (own := [("call", 5)]) rfl sc__law_one_each.nd (pi_u (pv 1)) (blkOk_any (own := [("call", 5)]) (N := N__law_one_each) (by decide +kernel)) (fun _ _ _ _ _ => (pg_name (i := 5) sc__law_one_each.nd rfl (.inl rfl))) (fun _ _ _ _ _ => pts_nil) (fun _ _ _ _ _ => (pe_ix ix_u (pv 5) pe_int (fun _ _ => rfl)))) rfl))) pa_nil)))))))

abbrev s__law_nearest_ : Stmt := topS 27
abbrev N__law_nearest : List Str := ["town", "chart", "now", "wagons", "calls", "name", "place", "some", "wagon", "call", "minutes"]
theorem sc__law_nearest : FnScope N__law_nearest ["town", "chart", "now", "wagons", "calls", "name"] (defScope s__law_nearest_) := ⟨rfl, rfl, rfl, by decide +kernel, rfl, by decide +kernel, by decide +kernel⟩
def t__law_nearest (K : PySem.W.Frag) (s_may_be_sent : Sp) (s_far : Sp) : TS :=
  tSeq (tAsg (tOp (uIx K) (tLc (iU K (tVar 4)) (gName 9) (tTest (tOp (uEq K false) (tOp (uIx K) (tVar 9) (tC (.int 0))) (tVar 5))) (tOp (uIx K) (tVar 9) (tC (.int 1))) [9]) (tC (.int 0))) (gName 6)) (tSeq (tAsg (tLc (iU K (tVar 3)) (gName 8) (tTru K (tGo s_may_be_sent E0 (tCons (tVar 4) (tCons (tVar 8) (tCons (tVar 5) (tNil)))))) (tGo s_far E0 (tCons (tVar 0) (tCons (tVar 1) (tCons (tVar 2) (tCons (tVar 8) (tCons (tVar 6) (tNil))))))) [8]) (gName 7)) (tRet (tMinN K (tLc (iU K (tVar 7)) (gName 10) (tTest (tOp rNotN (tVar 10) (tC .non))) (tVar 10) [10]))))
theorem dv__law_nearest {P : Program} {w : World} {K : PySem.W.Frag} {mg : Str → Option Value} {b : Heap} {a : Addr} {d : FuncData} {sp : Sp} (F : Fn K mg "_law_nearest" s__law_nearest_ a d ["town", "chart", "now", "wagons", "calls", "name"])
    {a_may_be_sent : Addr} {d_may_be_sent : FuncData} {s_may_be_sent : Sp} (F_may_be_sent : Fn K mg "may_be_sent" s_may_be_sent_ a_may_be_sent d_may_be_sent ["calls", "wagon", "name"]) (k_may_be_sent : Keeps P w K mg b CX0 3 a_may_be_sent d_may_be_sent ["calls", "wagon", "name"] s_may_be_sent)
    {a_far : Addr} {d_far : FuncData} {s_far : Sp} (F_far : Fn K mg "far" s_far_ a_far d_far ["town", "chart", "now", "wagon", "place"]) (k_far : Keeps P w K mg b CX0 2 a_far d_far ["town", "chart", "now", "wagon", "place"] s_far)
    (n_min : mg "min" = none)
    (len : ∀ vs H Q E, sp vs H Q E → vs.length = 6)
    (rd : ∀ vs H Q E, sp vs H Q E → run (t__law_nearest K s_may_be_sent s_far) (start N__law_nearest vs) H Q) : Keeps P w K mg b CX0 4 a d ["town", "chart", "now", "wagons", "calls", "name"] sp := by
  refine keeps0 F.fn sc__law_nearest len fun cdv A o s H vs Q E hr h => ⟨t__law_nearest K s_may_be_sent s_far, ?_, rd vs H Q E h⟩
  unfold t__law_nearest 
  exact (pss_cons (ps_set (i := 6) sc__law_nearest.nd rfl (.inr rfl) (pe_ix ix_u (pe_lc (own := [("call", 9)]) rfl sc__law_nearest.nd (pi_u (pv 4)) (blkOk_by (own := [("call", 9)]) (N := N__law_nearest) (sc := defScope s__law_nearest_) (by decide +kernel)) (fun _ _ _ _ _ => (pg_name (i := 9) sc__law_nearest.nd rfl (.inl rfl))) (fun _ _ _ _ _ => (pts_one (pt_cmpR (op_uEq hr.rm.units) (pe_ix ix_u (pv 9) pe_int (fun _ _ => rfl)) (pv 5) (nomark _)))) (fun _ _ _ _ _ => (pe_ix ix_u (pv 9) pe_int (fun _ _ => rfl)))) pe_int (fun _ _ => rfl)))
  (pss_cons (ps_setLc (i := 7) (own := [("wagon", 8)]) rfl sc__law_nearest.nd rfl rfl (sw_true rfl rfl rfl (by decide +kernel)) (pi_u (pv 3)) (blkOk_by (own := [("wagon", 8)]) (N := N__law_nearest) (sc := defScope s__law_nearest_) (by decide +kernel)) (fun _ _ _ _ _ => (pg_name (i := 8) sc__law_nearest.nd rfl (.inl rfl))) (fun _ _ _ _ _ => (pts_one (pt_tru (pe_go k_may_be_sent (hr.mono (by decide)) rfl F_may_be_sent.g F_may_be_sent.fn.kp F_may_be_sent.b pass0 (pa_cons (pv 4) (pa_cons (pv 8) (pa_cons (pv 5) pa_nil))))))) (fun _ _ _ _ _ => (pe_go k_far (hr.mono (by decide)) rfl F_far.g F_far.fn.kp F_far.b pass0 (pa_cons (pv 0) (pa_cons (pv 1) (pa_cons (pv 2) (pa_cons (pv 8) (pa_cons (pv 6) pa_nil))))))))
  (pss_one (ps_ret (pe_minN rfl hr.rm.units (by rfl) n_min (pe_lc (own := [("minutes", 10)]) rfl sc__law_nearest.nd (pi_u (pv 7)) (blkOk_by (own := [("minutes", 10)]) (N := N__law_nearest) (sc := defScope s__law_nearest_) (by decide +kernel)) (fun _ _ _ _ _ => (pg_name (i := 10) sc__law_nearest.nd rfl (.inl rfl))) (fun _ _ _ _ _ => (pts_one (pt_cmpR op_notN (pv 10) pe_non (nomark _)))) (fun _ _ _ _ _ => (pv 10))))))))

abbrev s__law_walked_ : Stmt := topS 28
abbrev N__law_walked : List Str := ["town", "chart", "now", "wagons", "calls", "told", "wagon", "done", "name", "left", "some", "order", "place", "one", "call"]
theorem sc__law_walked : FnScope N__law_walked ["town", "chart", "now", "wagons", "calls", "told"] (defScope s__law_walked_) := ⟨rfl, rfl, rfl, by decide +kernel, rfl, by decide +kernel, by decide +kernel⟩
def t__law_walked_r1 (K : PySem.W.Frag) (s_waiting : Sp) (s__law_nearest : Sp) (s_may_be_sent : Sp) (s_far : Sp) : TS :=
  tDrop (tBM K "list" uAppend (tVar 7) (tCons (tBM K "list" uPopAt (tVar 11) (tCons (tC (.int 0)) (tNil))) (tNil)))
def t__law_walked_r2 (K : PySem.W.Frag) (s_waiting : Sp) (s__law_nearest : Sp) (s_may_be_sent : Sp) (s_far : Sp) : TS :=
  tSeq (tDrop (tBM K "list" uAppend (tVar 7) (tCons (tVar 8) (tNil)))) (sDPut (tVar 3) (tVar 6) (tOp (uAdd K) (tSl (uSl K) (tDGet (tVar 3) (tVar 6)) (tNoPart) (tPart (tC (.int 5)))) (tTupU (tCons (tTupU (tCons (tC (.str "to")) (tCons (tVar 8) (tNil)))) (tNil)))))
def t__law_walked_r3 (K : PySem.W.Frag) (s_waiting : Sp) (s__law_nearest : Sp) (s_may_be_sent : Sp) (s_far : Sp) : TS :=
  tSeq (tIfS (tTest (tOp (uEq K true) (tVar 9) (tOp (uIx K) (tOp (uAddQ K) (tOp (uIx K) (tDGet (tVar 3) (tVar 6)) (tC (.int 5))) (tTupU (tCons (tC .non) (tNil)))) (tC (.int 1))))) (tRet (tC .non)) (tNext)) (t__law_walked_r2 K s_waiting s__law_nearest s_may_be_sent s_far)
def t__law_walked_r4 (K : PySem.W.Frag) (s_waiting : Sp) (s__law_nearest : Sp) (s_may_be_sent : Sp) (s_far : Sp) : TS :=
  tSeq (tIfS (tTest (tOp (uEq K true) (tGo s_far E0 (tCons (tVar 0) (tCons (tVar 1) (tCons (tVar 2) (tCons (tDGet (tVar 3) (tVar 6)) (tCons (tVar 12) (tNil))))))) (tGo s__law_nearest E0 (tCons (tVar 0) (tCons (tVar 1) (tCons (tVar 2) (tCons (tVar 10) (tCons (tVar 4) (tCons (tVar 8) (tNil)))))))))) (tRet (tC .non)) (tNext)) (t__law_walked_r3 K s_waiting s__law_nearest s_may_be_sent s_far)
def t__law_walked_r5 (K : PySem.W.Frag) (s_waiting : Sp) (s__law_nearest : Sp) (s_may_be_sent : Sp) (s_far : Sp) : TS :=
  tSeq (tAsg (tOp (uIx K) (tLc (iU K (tVar 4)) (gName 14) (tTest (tOp (uEq K false) (tOp (uIx K) (tVar 14) (tC (.int 0))) (tVar 8))) (tOp (uIx K) (tVar 14) (tC (.int 1))) [14]) (tC (.int 0))) (gName 12)) (tSeq (tIfS (tOr (tTest (tOp (uEq K false) (tVar 11) (tLstU (tNil)))) (tOr (tTest (tDNotIn (tVar 6) (tVar 3))) (tTest (tOp rNotB (tGo s_may_be_sent E0 (tCons (tVar 4) (tCons (tDGet (tVar 3) (tVar 6)) (tCons (tVar 8) (tNil))))) (tC (.bl true)))))) (tRet (tC .non)) (tNext)) (t__law_walked_r4 K s_waiting s__law_nearest s_may_be_sent s_far))
def t__law_walked_b1 (K : PySem.W.Frag) (s_waiting : Sp) (s__law_nearest : Sp) (s_may_be_sent : Sp) (s_far : Sp) : TS :=
  tSeq (tAsg (tLc (iU K (tCB (uSortD) (tCons (tVar 3) (tNil)))) (gName 13) (tYes) (tDGet (tVar 3) (tVar 13)) [13]) (gName 10)) (tSeq (tAsg (tLc (iU K (tGo s_waiting E0 (tCons (tVar 10) (tCons (tVar 4) (tNil))))) (gName 13) (tTest (tOp (uIn K true) (tVar 13) (tVar 7))) (tVar 13) [13]) (gName 11)) (tSeq (tWhile (tAnd (tTest (tOp (uEq K true) (tVar 11) (tLstU (tNil)))) (tTest (tOp (uEq K true) (tOp (uIx K) (tVar 11) (tC (.int 0))) (tVar 8)))) (tSeq (tIfS (tTest (tOp rNotN (tGo s__law_nearest E0 (tCons (tVar 0) (tCons (tVar 1) (tCons (tVar 2) (tCons (tVar 10) (tCons (tVar 4) (tCons (tOp (uIx K) (tVar 11) (tC (.int 0))) (tNil)))))))) (tC .non))) (tRet (tC .non)) (tNext)) (t__law_walked_r1 K s_waiting s__law_nearest s_may_be_sent s_far))) (t__law_walked_r5 K s_waiting s__law_nearest s_may_be_sent s_far)))
def t__law_walked_r6 (K : PySem.W.Frag) (s_waiting : Sp) (s__law_nearest : Sp) (s_may_be_sent : Sp) (s_far : Sp) : TS :=
  tRet (tLc (iU K (tCB (uSortD) (tCons (tVar 3) (tNil)))) (gName 13) (tYes) (tDGet (tVar 3) (tVar 13)) [13])
def t__law_walked (K : PySem.W.Frag) (s_waiting : Sp) (s__law_nearest : Sp) (s_may_be_sent : Sp) (s_far : Sp) : TS :=
  tSeq (tAsg (tCB (uDictP K) (tCons (tLc (iU K (tVar 3)) (gName 6) (tYes) (tTupU (tCons (tOp (uIx K) (tVar 6) (tC (.int 0))) (tCons (tVar 6) (tNil)))) [6]) (tNil))) (gName 3)) (tSeq (tAsg (tLstU (tNil)) (gName 7)) (tSeq (tFor (iU K (tVar 5)) (gTup K 3 (gCons (gName 8) (gCons (gName 6) (gCons (gName 9) (gNil))))) (t__law_walked_b1 K s_waiting s__law_nearest s_may_be_sent s_far)) (t__law_walked_r6 K s_waiting s__law_nearest s_may_be_sent s_far)))
theorem dv__law_walked {P : Program} {w : World} {K : PySem.W.Frag} {mg : Str → Option Value} {b : Heap} {a : Addr} {d : FuncData} {sp : Sp} (F : Fn K mg "_law_walked" s__law_walked_ a d ["town", "chart", "now", "wagons", "calls", "told"])
    (n_dict : mg "dict" = none)
    (n_sorted : mg "sorted" = none)
    {a_waiting : Addr} {d_waiting : FuncData} {s_waiting : Sp} (F_waiting : Fn K mg "waiting" s_waiting_ a_waiting d_waiting ["wagons", "calls"]) (k_waiting : Keeps P w K mg b CX0 2 a_waiting d_waiting ["wagons", "calls"] s_waiting)
    {a__law_nearest : Addr} {d__law_nearest : FuncData} {s__law_nearest : Sp} (F__law_nearest : Fn K mg "_law_nearest" s__law_nearest_ a__law_nearest d__law_nearest ["town", "chart", "now", "wagons", "calls", "name"]) (k__law_nearest : Keeps P w K mg b CX0 4 a__law_nearest d__law_nearest ["town", "chart", "now", "wagons", "calls", "name"] s__law_nearest)
    {a_may_be_sent : Addr} {d_may_be_sent : FuncData} {s_may_be_sent : Sp} (F_may_be_sent : Fn K mg "may_be_sent" s_may_be_sent_ a_may_be_sent d_may_be_sent ["calls", "wagon", "name"]) (k_may_be_sent : Keeps P w K mg b CX0 3 a_may_be_sent d_may_be_sent ["calls", "wagon", "name"] s_may_be_sent)
    {a_far : Addr} {d_far : FuncData} {s_far : Sp} (F_far : Fn K mg "far" s_far_ a_far d_far ["town", "chart", "now", "wagon", "place"]) (k_far : Keeps P w K mg b CX0 2 a_far d_far ["town", "chart", "now", "wagon", "place"] s_far)
    (len : ∀ vs H Q E, sp vs H Q E → vs.length = 6)
    (rd : ∀ vs H Q E, sp vs H Q E → run (t__law_walked K s_waiting s__law_nearest s_may_be_sent s_far) (start N__law_walked vs) H Q) : Keeps P w K mg b CX0 5 a d ["town", "chart", "now", "wagons", "calls", "told"] sp := by
  refine keeps0 F.fn sc__law_walked len fun cdv A o s H vs Q E hr h => ⟨t__law_walked K s_waiting s__law_nearest s_may_be_sent s_far, ?_, rd vs H Q E h⟩
  unfold t__law_walked t__law_walked_r6 t__law_walked_b1 t__law_walked_r5 t__law_walked_r4 t__law_walked_r3 t__law_walked_r2 t__law_walked_r1
  exact (pss_cons (ps_set (i := 3) sc__law_walked.nd rfl (.inr rfl) (pe_callTy (call_uDictP rfl) (by rfl) n_dict (by decide +kernel) (pa_cons (pe_lc (own := [("wagon", 6)]) rfl sc__law_walked.nd (pi_u (pv 3)) (blkOk_by (own := [("wagon", 6)]) (N := N__law_walked) (sc := defScope s__law_walked_) (by decide +kernel)) (fun _ _ _ _ _ => (pg_name (i := 6) sc__law_walked.nd rfl (.inl rfl))) (fun _ _ _ _ _ => pts_nil) (fun _ _ _ _ _ => (pe_tupU (pa_cons (pe_ix ix_u (pv 6) pe_int (fun _ _ => rfl)) (pa_cons (pv 6) pa_nil))))) pa_nil)))
  (pss_cons (ps_set (i := 7) sc__law_walked.nd rfl (.inr rfl) (pe_lstU pa_nil))
  (pss_cons (ps_for PassesOwn.never rfl (pi_u (pv 5)) (pg_tup rfl (pgs_cons (pg_name (i := 8) sc__law_walked.nd rfl (.inr rfl)) (pgs_cons (pg_name (i := 6) sc__law_walked.nd rfl (.inl rfl)) (pgs_cons (pg_name (i := 9) sc__law_walked.nd rfl (.inl rfl)) pgs_nil)))) (pss_cons (ps_setLc (i := 10) (own := [("one", 13)]) rfl sc__law_walked.nd rfl rfl (sw_true rfl rfl rfl (by decide +kernel)) (pi_u (pe_callB (call_uSortD rfl) (by rfl) n_sorted (by decide +kernel) (pa_cons (pv 3) pa_nil))) (blkOk_by (own := [("one", 13)]) (N := N__law_walked) (sc := defScope s__law_walked_) (by decide +kernel)) (fun _ _ _ _ _ => (pg_name (i := 13) sc__law_walked.nd rfl (.inl rfl))) (fun _ _ _ _ _ => pts_nil) (fun _ _ _ _ _ => (pe_dget (hu_of hr.rm) (pv 3) (pv 13) (fun _ _ => rfl))))
  (pss_cons (ps_setLc (i := 11) (own := [("one", 13)]) rfl sc__law_walked.nd rfl rfl (sw_true rfl rfl rfl (by decide +kernel)) (pi_u (pe_go k_waiting (hr.mono (by decide)) rfl F_waiting.g F_waiting.fn.kp F_waiting.b pass0 (pa_cons (pv 10) (pa_cons (pv 4) pa_nil)))) (blkOk_by (own := [("one", 13)]) (N := N__law_walked) (sc := defScope s__law_walked_) (by decide +kernel)) (fun _ _ _ _ _ => (pg_name (i := 13) sc__law_walked.nd rfl (.inl rfl))) (fun _ _ _ _ _ => (pts_one (pt_cmpR op_uNotIn (pv 13) (pv 7) rfl))) (fun _ _ _ _ _ => (pv 13)))
  (pss_cons (ps_while PassesOwn.never (PW.pt (pw_and (pt_cmpR (op_uNe hr.rm.units) (pv 11) (pe_lstU pa_nil) (nomark _)) (pw_and1 (pt_cmpR (op_uNe hr.rm.units) (pe_ix ix_u (pv 11) pe_int (fun _ _ => rfl)) (pv 8) (nomark _))))) (pss_cons (ps_if (pt_cmpR op_notN (pe_go k__law_nearest (hr.mono (by decide)) rfl F__law_nearest.g F__law_nearest.fn.kp F__law_nearest.b pass0 (pa_cons (pv 0) (pa_cons (pv 1) (pa_cons (pv 2) (pa_cons (pv 10) (pa_cons (pv 4) (pa_cons (pe_ix ix_u (pv 11) pe_int (fun _ _ => rfl)) pa_nil))))))) pe_non (nomark _)) (pss_one (ps_ret pe_non)) pss_nil)
  (pss_one (ps_expr (pe_bm PySem.F.plainAttrs_list PySem.F.slot_list_append PySem.F.type_list_append mt_uAppend (pv 7) (pa_cons (pe_bm PySem.F.plainAttrs_list PySem.F.slot_list_pop PySem.F.type_list_pop mt_uPopAt (pv 11) (pa_cons pe_int pa_nil)) pa_nil))))))
  (pss_cons (ps_set (i := 12) sc__law_walked.nd rfl (.inl rfl) (pe_ix ix_u (pe_lc (own := [("call", 14)]) rfl sc__law_walked.nd (pi_u (pv 4)) (blkOk_by (own := [("call", 14)]) (N := N__law_walked) (sc := defScope s__law_walked_) (by decide +kernel)) (fun _ _ _ _ _ => (pg_name (i := 14) sc__law_walked.nd rfl (.inl rfl))) (fun _ _ _ _ _ => (pts_one (pt_cmpR (op_uEq hr.rm.units) (pe_ix ix_u (pv 14) pe_int (fun _ _ => rfl)) (pv 8) (nomark _)))) (fun _ _ _ _ _ => (pe_ix ix_u (pv 14) pe_int (fun _ _ => rfl)))) pe_int (fun _ _ => rfl)))
  (pss_cons (ps_if (PW.pt (pw_or (pt_cmpR (op_uEq hr.rm.units) (pv 11) (pe_lstU pa_nil) (nomark _)) (pw_or (pt_cmp (pc_dnotin (hu_of hr.rm) (pv 6) (pv 3))) (pw_or1 (pt_cmpR op_notBl (pe_go k_may_be_sent (hr.mono (by decide)) rfl F_may_be_sent.g F_may_be_sent.fn.kp F_may_be_sent.b pass0 (pa_cons (pv 4) (pa_cons (pe_dget (hu_of hr.rm) (pv 3) (pv 6) (fun _ _ => rfl)) (pa_cons (pv 8) pa_nil)))) pe_bl (nomark _)))))) (pss_one (ps_ret pe_non)) pss_nil)
  (pss_cons (ps_if (pt_cmpR (op_uNe hr.rm.units) (pe_go k_far (hr.mono (by decide)) rfl F_far.g F_far.fn.kp F_far.b pass0 (pa_cons (pv 0) (pa_cons (pv 1) (pa_cons (pv 2) (pa_cons (pe_dget (hu_of hr.rm) (pv 3) (pv 6) (fun _ _ => rfl)) (pa_cons (pv 12) pa_nil)))))) (pe_go k__law_nearest (hr.mono (by decide)) rfl F__law_nearest.g F__law_nearest.fn.kp F__law_nearest.b pass0 (pa_cons (pv 0) (pa_cons (pv 1) (pa_cons (pv 2) (pa_cons (pv 10) (pa_cons (pv 4) (pa_cons (pv 8) pa_nil))))))) (nomark _)) (pss_one (ps_ret pe_non)) pss_nil)
  (pss_cons (ps_if (pt_cmpR (op_uNe hr.rm.units) (pv 9) (pe_ix ix_u (pe_op op_uAddQ (pe_ix ix_u (pe_dget (hu_of hr.rm) (pv 3) (pv 6) (fun _ _ => rfl)) pe_int (fun _ _ => rfl)) (pe_tupU (pa_cons pe_non pa_nil))) pe_int (fun _ _ => rfl)) (nomark _)) (pss_one (ps_ret pe_non)) pss_nil)
  (pss_cons (ps_expr (pe_bm PySem.F.plainAttrs_list PySem.F.slot_list_append PySem.F.type_list_append mt_uAppend (pv 7) (pa_cons (pv 8) pa_nil)))
  (pss_one (ps_dput (hu_of hr.rm) (pv 3) (pv 6) (pe_op op_uAdd (pe_slice sl_u (pe_dget (hu_of hr.rm) (pv 3) (pv 6) (fun _ _ => rfl)) po_none (po_some pe_int)) (pe_tupU (pa_cons (pe_tupU (pa_cons pe_str (pa_cons (pv 8) pa_nil))) pa_nil))) rfl)))))))))))
  (pss_one (ps_ret (pe_lc (own := [("one", 13)]) rfl sc__law_walked.nd (pi_u (pe_callB (call_uSortD rfl) (by rfl) n_sorted (by decide +kernel) (pa_cons (pv 3) pa_nil))) (blkOk_by (own := [("one", 13)]) (N := N__law_walked) (sc := defScope s__law_walked_) (by decide +kernel)) (fun _ _ _ _ _ => (pg_name (i := 13) sc__law_walked.nd rfl (.inl rfl))) (fun _ _ _ _ _ => pts_nil) (fun _ _ _ _ _ => (pe_dget (hu_of hr.rm) (pv 3) (pv 13) (fun _ _ => rfl)))))))))

abbrev s_law_ : Stmt := topS 29
abbrev N_law : List Str := ["script", "town", "now", "wagons", "calls", "shut", "one", "chart", "cut", "behind", "told", "last", "name", "wagon"]
theorem sc_law : FnScope N_law ["script"] (defScope s_law_) := ⟨rfl, rfl, rfl, by decide +kernel, rfl, by decide +kernel, by decide +kernel⟩
def t_law_b1 (K : PySem.W.Frag) (s__law_scene : Sp) (s__law_shut : Sp) (s__law_cell_at : Sp) (s__law_chart : Sp) (s_cut_off : Sp) (s_sendings : Sp) (s__law_one_each : Sp) (s__law_walked : Sp) (s_waiting : Sp) (s__law_nearest : Sp) : TS :=
  tIfS (tTest (tOp rNotN (tGo s__law_nearest E0 (tCons (tVar 1) (tCons (tVar 7) (tCons (tVar 2) (tCons (tVar 11) (tCons (tVar 4) (tCons (tVar 12) (tNil)))))))) (tC .non))) (tRet (tC (.bl false))) (tNext)
def t_law_r1 (K : PySem.W.Frag) (s__law_scene : Sp) (s__law_shut : Sp) (s__law_cell_at : Sp) (s__law_chart : Sp) (s_cut_off : Sp) (s_sendings : Sp) (s__law_one_each : Sp) (s__law_walked : Sp) (s_waiting : Sp) (s__law_nearest : Sp) : TS :=
  tFor (iU K (tGo s_waiting E0 (tCons (tVar 11) (tCons (tVar 4) (tNil))))) (gName 12) (t_law_b1 K s__law_scene s__law_shut s__law_cell_at s__law_chart s_cut_off s_sendings s__law_one_each s__law_walked s_waiting s__law_nearest)
def t_law_r2 (K : PySem.W.Frag) (s__law_scene : Sp) (s__law_shut : Sp) (s__law_cell_at : Sp) (s__law_chart : Sp) (s_cut_off : Sp) (s_sendings : Sp) (s__law_one_each : Sp) (s__law_walked : Sp) (s_waiting : Sp) (s__law_nearest : Sp) : TS :=
  tSeq (tIfS (tTest (tOp (uEq K true) (tLc (iU K (tVar 3)) (gName 13) (tTest (tOp (uEq K false) (tOp (uIx K) (tOp (uIx K) (tVar 13) (tC (.int 5))) (tC (.int 0))) (tC (.str "at")))) (tVar 13) [13]) (tLc (iU K (tVar 11)) (gName 13) (tTest (tOp (uEq K false) (tOp (uIx K) (tOp (uIx K) (tVar 13) (tC (.int 5))) (tC (.int 0))) (tC (.str "at")))) (tVar 13) [13]))) (tRet (tC (.bl false))) (tNext)) (t_law_r1 K s__law_scene s__law_shut s__law_cell_at s__law_chart s_cut_off s_sendings s__law_one_each s__law_walked s_waiting s__law_nearest)
def t_law_r3 (K : PySem.W.Frag) (s__law_scene : Sp) (s__law_shut : Sp) (s__law_cell_at : Sp) (s__law_chart : Sp) (s_cut_off : Sp) (s_sendings : Sp) (s__law_one_each : Sp) (s__law_walked : Sp) (s_waiting : Sp) (s__law_nearest : Sp) : TS :=
  tSeq (tIfS (tTest (tOp (uEq K true) (tGo s__law_walked E0 (tCons (tVar 1) (tCons (tVar 7) (tCons (tVar 2) (tCons (tVar 9) (tCons (tVar 4) (tCons (tVar 10) (tNil)))))))) (tVar 11))) (tRet (tC (.bl false))) (tNext)) (t_law_r2 K s__law_scene s__law_shut s__law_cell_at s__law_chart s_cut_off s_sendings s__law_one_each s__law_walked s_waiting s__law_nearest)
def t_law_b2 (K : PySem.W.Frag) (s__law_scene : Sp) (s__law_shut : Sp) (s__law_cell_at : Sp) (s__law_chart : Sp) (s_cut_off : Sp) (s_sendings : Sp) (s__law_one_each : Sp) (s__law_walked : Sp) (s_waiting : Sp) (s__law_nearest : Sp) : TS :=
  tSeq (tAsg (tGo s__law_chart E0 (tCons (tVar 1) (tCons (tVar 6) (tNil)))) (gName 7)) (tSeq (tAsg (tGo s_cut_off E0 (tCons (tVar 1) (tCons (tVar 7) (tCons (tVar 3) (tCons (tVar 4) (tNil)))))) (gTup K 2 (gCons (gName 8) (gCons (gName 9) (gNil))))) (tSeq (tAsg (tGo s_sendings E0 (tCons (tVar 1) (tCons (tVar 7) (tCons (tVar 2) (tCons (tVar 9) (tCons (tVar 4) (tNil))))))) (gTup K 2 (gCons (gName 10) (gCons (gName 11) (gNil))))) (tSeq (tIfS (tOr (tNot (tTru K (tGo s__law_one_each E0 (tCons (tVar 9) (tCons (tVar 4) (tNil)))))) (tNot (tTru K (tGo s__law_one_each E0 (tCons (tVar 11) (tCons (tVar 4) (tNil))))))) (tRet (tC (.bl false))) (tNext)) (t_law_r3 K s__law_scene s__law_shut s__law_cell_at s__law_chart s_cut_off s_sendings s__law_one_each s__law_walked s_waiting s__law_nearest))))
def t_law_r4 (K : PySem.W.Frag) (s__law_scene : Sp) (s__law_shut : Sp) (s__law_cell_at : Sp) (s__law_chart : Sp) (s_cut_off : Sp) (s_sendings : Sp) (s__law_one_each : Sp) (s__law_walked : Sp) (s_waiting : Sp) (s__law_nearest : Sp) : TS :=
  tRet (tC (.bl true))
def t_law (K : PySem.W.Frag) (s__law_scene : Sp) (s__law_shut : Sp) (s__law_cell_at : Sp) (s__law_chart : Sp) (s_cut_off : Sp) (s_sendings : Sp) (s__law_one_each : Sp) (s__law_walked : Sp) (s_waiting : Sp) (s__law_nearest : Sp) : TS :=
  tSeq (tAsg (tGo s__law_scene E0 (tCons (tVar 0) (tNil))) (gTup K 4 (gCons (gName 1) (gCons (gName 2) (gCons (gName 3) (gCons (gName 4) (gNil))))))) (tSeq (tAsg (tGo s__law_shut E0 (tCons (tGo s__law_cell_at E0 (tCons (tVar 0) (tCons (tC (.int 19)) (tNil)))) (tCons (tVar 1) (tNil)))) (gName 5)) (tSeq (tFor (iU K (tLstU (tCons (tVar 5) (tCons (tTupU (tNil)) (tNil))))) (gName 6) (t_law_b2 K s__law_scene s__law_shut s__law_cell_at s__law_chart s_cut_off s_sendings s__law_one_each s__law_walked s_waiting s__law_nearest)) (t_law_r4 K s__law_scene s__law_shut s__law_cell_at s__law_chart s_cut_off s_sendings s__law_one_each s__law_walked s_waiting s__law_nearest)))
theorem dv_law {P : Program} {w : World} {K : PySem.W.Frag} {mg : Str → Option Value} {b : Heap} {a : Addr} {d : FuncData} {sp : Sp} (F : Fn K mg "law" s_law_ a d ["script"])
    {a__law_scene : Addr} {d__law_scene : FuncData} {s__law_scene : Sp} (F__law_scene : Fn K mg "_law_scene" s__law_scene_ a__law_scene d__law_scene ["script"]) (k__law_scene : Keeps P w K mg b CX0 4 a__law_scene d__law_scene ["script"] s__law_scene)
    {a__law_shut : Addr} {d__law_shut : FuncData} {s__law_shut : Sp} (F__law_shut : Fn K mg "_law_shut" s__law_shut_ a__law_shut d__law_shut ["cell", "town"]) (k__law_shut : Keeps P w K mg b CX0 3 a__law_shut d__law_shut ["cell", "town"] s__law_shut)
    {a__law_cell_at : Addr} {d__law_cell_at : FuncData} {s__law_cell_at : Sp} (F__law_cell_at : Fn K mg "_law_cell_at" s__law_cell_at_ a__law_cell_at d__law_cell_at ["script", "k"]) (k__law_cell_at : Keeps P w K mg b CX0 2 a__law_cell_at d__law_cell_at ["script", "k"] s__law_cell_at)
    {a__law_chart : Addr} {d__law_chart : FuncData} {s__law_chart : Sp} (F__law_chart : Fn K mg "_law_chart" s__law_chart_ a__law_chart d__law_chart ["town", "shut"]) (k__law_chart : Keeps P w K mg b CX0 3 a__law_chart d__law_chart ["town", "shut"] s__law_chart)
    {a_cut_off : Addr} {d_cut_off : FuncData} {s_cut_off : Sp} (F_cut_off : Fn K mg "cut_off" s_cut_off_ a_cut_off d_cut_off ["town", "chart", "wagons", "calls"]) (k_cut_off : Keeps P w K mg b CX0 4 a_cut_off d_cut_off ["town", "chart", "wagons", "calls"] s_cut_off)
    {a_sendings : Addr} {d_sendings : FuncData} {s_sendings : Sp} (F_sendings : Fn K mg "sendings" s_sendings_ a_sendings d_sendings ["town", "chart", "now", "wagons", "calls"]) (k_sendings : Keeps P w K mg b CX0 5 a_sendings d_sendings ["town", "chart", "now", "wagons", "calls"] s_sendings)
    {a__law_one_each : Addr} {d__law_one_each : FuncData} {s__law_one_each : Sp} (F__law_one_each : Fn K mg "_law_one_each" s__law_one_each_ a__law_one_each d__law_one_each ["wagons", "calls"]) (k__law_one_each : Keeps P w K mg b CX0 2 a__law_one_each d__law_one_each ["wagons", "calls"] s__law_one_each)
    {a__law_walked : Addr} {d__law_walked : FuncData} {s__law_walked : Sp} (F__law_walked : Fn K mg "_law_walked" s__law_walked_ a__law_walked d__law_walked ["town", "chart", "now", "wagons", "calls", "told"]) (k__law_walked : Keeps P w K mg b CX0 5 a__law_walked d__law_walked ["town", "chart", "now", "wagons", "calls", "told"] s__law_walked)
    {a_waiting : Addr} {d_waiting : FuncData} {s_waiting : Sp} (F_waiting : Fn K mg "waiting" s_waiting_ a_waiting d_waiting ["wagons", "calls"]) (k_waiting : Keeps P w K mg b CX0 2 a_waiting d_waiting ["wagons", "calls"] s_waiting)
    {a__law_nearest : Addr} {d__law_nearest : FuncData} {s__law_nearest : Sp} (F__law_nearest : Fn K mg "_law_nearest" s__law_nearest_ a__law_nearest d__law_nearest ["town", "chart", "now", "wagons", "calls", "name"]) (k__law_nearest : Keeps P w K mg b CX0 4 a__law_nearest d__law_nearest ["town", "chart", "now", "wagons", "calls", "name"] s__law_nearest)
    (len : ∀ vs H Q E, sp vs H Q E → vs.length = 1)
    (rd : ∀ vs H Q E, sp vs H Q E → run (t_law K s__law_scene s__law_shut s__law_cell_at s__law_chart s_cut_off s_sendings s__law_one_each s__law_walked s_waiting s__law_nearest) (start N_law vs) H Q) : Keeps P w K mg b CX0 6 a d ["script"] sp := by
  refine keeps0 F.fn sc_law len fun cdv A o s H vs Q E hr h => ⟨t_law K s__law_scene s__law_shut s__law_cell_at s__law_chart s_cut_off s_sendings s__law_one_each s__law_walked s_waiting s__law_nearest, ?_, rd vs H Q E h⟩
  unfold t_law t_law_r4 t_law_b2 t_law_r3 t_law_r2 t_law_r1 t_law_b1
  exact (pss_cons (ps_asg (pe_go k__law_scene (hr.mono (by decide)) rfl F__law_scene.g F__law_scene.fn.kp F__law_scene.b pass0 (pa_cons (pv 0) pa_nil)) (pg_tup rfl (pgs_cons (pg_name (i := 1) sc_law.nd rfl (.inl rfl)) (pgs_cons (pg_name (i := 2) sc_law.nd rfl (.inl rfl)) (pgs_cons (pg_name (i := 3) sc_law.nd rfl (.inl rfl)) (pgs_cons (pg_name (i := 4) sc_law.nd rfl (.inl rfl)) pgs_nil))))))
  (pss_cons (ps_set (i := 5) sc_law.nd rfl (.inl rfl) (pe_go k__law_shut (hr.mono (by decide)) rfl F__law_shut.g F__law_shut.fn.kp F__law_shut.b pass0 (pa_cons (pe_go k__law_cell_at (hr.mono (by decide)) rfl F__law_cell_at.g F__law_cell_at.fn.kp F__law_cell_at.b pass0 (pa_cons (pv 0) (pa_cons pe_int pa_nil))) (pa_cons (pv 1) pa_nil))))
  (pss_cons (ps_for PassesOwn.never rfl (pi_u (pe_lstU (pa_cons (pv 5) (pa_cons (pe_tupU pa_nil) pa_nil)))) (pg_name (i := 6) sc_law.nd rfl (.inl rfl)) (pss_cons (ps_set (i := 7) sc_law.nd rfl (.inl rfl) (pe_go k__law_chart (hr.mono (by decide)) rfl F__law_chart.g F__law_chart.fn.kp F__law_chart.b pass0 (pa_cons (pv 1) (pa_cons (pv 6) pa_nil))))
  (pss_cons (ps_asg (pe_go k_cut_off (hr.mono (by decide)) rfl F_cut_off.g F_cut_off.fn.kp F_cut_off.b pass0 (pa_cons (pv 1) (pa_cons (pv 7) (pa_cons (pv 3) (pa_cons (pv 4) pa_nil))))) (pg_tup rfl (pgs_cons (pg_name (i := 8) sc_law.nd rfl (.inl rfl)) (pgs_cons (pg_name (i := 9) sc_law.nd rfl (.inl rfl)) pgs_nil))))
  (pss_cons (ps_asg (pe_go k_sendings (hr.mono (by decide)) rfl F_sendings.g F_sendings.fn.kp F_sendings.b pass0 (pa_cons (pv 1) (pa_cons (pv 7) (pa_cons (pv 2) (pa_cons (pv 9) (pa_cons (pv 4) pa_nil)))))) (pg_tup rfl (pgs_cons (pg_name (i := 10) sc_law.nd rfl (.inl rfl)) (pgs_cons (pg_name (i := 11) sc_law.nd rfl (.inl rfl)) pgs_nil))))
  (pss_cons (ps_if (PW.pt (pw_or (pt_not (pt_tru (pe_go k__law_one_each (hr.mono (by decide)) rfl F__law_one_each.g F__law_one_each.fn.kp F__law_one_each.b pass0 (pa_cons (pv 9) (pa_cons (pv 4) pa_nil))))) (pw_or1 (pt_not (pt_tru (pe_go k__law_one_each (hr.mono (by decide)) rfl F__law_one_each.g F__law_one_each.fn.kp F__law_one_each.b pass0 (pa_cons (pv 11) (pa_cons (pv 4) pa_nil)))))))) (pss_one (ps_ret pe_bl)) pss_nil)
  (pss_cons (ps_if (pt_cmpR (op_uNe hr.rm.units) (pe_go k__law_walked (hr.mono (by decide)) rfl F__law_walked.g F__law_walked.fn.kp F__law_walked.b pass0 (pa_cons (pv 1) (pa_cons (pv 7) (pa_cons (pv 2) (pa_cons (pv 9) (pa_cons (pv 4) (pa_cons (pv 10) pa_nil))))))) (pv 11) (nomark _)) (pss_one (ps_ret pe_bl)) pss_nil)
  (pss_cons (ps_if (pt_cmpR (op_uNe hr.rm.units) (pe_lc (own := [("wagon", 13)]) rfl sc_law.nd (pi_u (pv 3)) (blkOk_by (own := [("wagon", 13)]) (N := N_law) (sc := defScope s_law_) (by decide +kernel)) (fun _ _ _ _ _ => (pg_name (i := 13) sc_law.nd rfl (.inl rfl))) (fun _ _ _ _ _ => (pts_one (pt_cmpR (op_uEq hr.rm.units) (pe_ix ix_u (pe_ix ix_u (pv 13) pe_int (fun _ _ => rfl)) pe_int (fun _ _ => rfl)) pe_str (nomark _)))) (fun _ _ _ _ _ => (pv 13))) (pe_lc (own := [("wagon", 13)]) rfl sc_law.nd (pi_u (pv 11)) (blkOk_by (own := [("wagon", 13)]) (N := N_law) (sc := defScope s_law_) (by decide +kernel)) (fun _ _ _ _ _ => (pg_name (i := 13) sc_law.nd rfl (.inl rfl))) (fun _ _ _ _ _ => (pts_one (pt_cmpR (op_uEq hr.rm.units) (pe_ix ix_u (pe_ix ix_u (pv 13) pe_int (fun _ _ => rfl)) pe_int (fun _ _ => rfl)) pe_str (nomark _)))) (fun _ _ _ _ _ => (pv 13))) (nomark _)) (pss_one (ps_ret pe_bl)) pss_nil)
  (pss_one (ps_for PassesOwn.never rfl (pi_u (pe_go k_waiting (hr.mono (by decide)) rfl F_waiting.g F_waiting.fn.kp F_waiting.b pass0 (pa_cons (pv 11) (pa_cons (pv 4) pa_nil)))) (pg_name (i := 12) sc_law.nd rfl (.inl rfl)) (pss_one (ps_if (pt_cmpR op_notN (pe_go k__law_nearest (hr.mono (by decide)) rfl F__law_nearest.g F__law_nearest.fn.kp F__law_nearest.b pass0 (pa_cons (pv 1) (pa_cons (pv 7) (pa_cons (pv 2) (pa_cons (pv 11) (pa_cons (pv 4) (pa_cons (pv 12) pa_nil))))))) pe_non (nomark _)) (pss_one (ps_ret pe_bl)) pss_nil)))))))))))
  (pss_one (ps_ret pe_bl)))))


local macro_rules | `(tactic| walk_at "hp") => `(tactic| first | assumption | (refine Keep.at (by assumption) ?_ ?_ <;> first | exact nin0 | (refine nin1 ?_; walk_at "ne") | walk_at "hp"))
local macro_rules | `(tactic| walk_at "ne") => `(tactic| first | assumption | (refine Ne.symm ?_; assumption) | exact Tup.neL (by assumption) (by assumption) | exact ne_of_none (by assumption) (by assumption) | exact (ne_of_none (by assumption) (by assumption)).symm)
local macro_rules | `(tactic| walk_at "sx") => `(tactic| try simp only [run, tSeq, tAsg, tIfS, tTest, tOp, tUn, tVar, tC, tRet, tRetN, tDrop, gName, gSub, gCons, gNil, tNext, tCons, tNil, tGo, tCB, tAndT, tOrT, tNotT, tTru, tAnd, tOr, tNot, tChain, tIf, tLstU, tTupU, tSl, tPart, tNoPart, tPar, tBM, tBM0, tDNewU, tDic1,
  List.getElem?_cons_zero, List.getElem?_cons_succ, List.set_cons_zero, List.set_cons_succ, Option.some.injEq, exists_eq_left', exists_eq_left, V.int.injEq, V.bl.injEq, V.str.injEq, V.ref.injEq, true_and, and_true, e_rI, e_rI0, e_rU, e_addI, e_addS, e_mulI, e_abs, e_max2, e_min2, e_str, e_intI, e_intB, e_isN, e_notN, e_truB, e_truI, wipe, tYes, tDicI, tIdx, tM1, tM0, e_lcU, e_lcR1, e_ten6, e_ten18, e_ten60, e_for1, e_for2, e_forU, e_forE, e_lcZ, e_dget, e_dput, e_forE, decide_eq_true_eq, if_true, if_false, ite_true, ite_false, Bool.false_eq_true, Bool.not_true, Bool.not_false, Bool.true_eq_false])
local macro_rules | `(tactic| walk_at "sz") => `(tactic| (first | refine len_le ?_ | refine len_lt ?_ | skip); simp only [List.length_cons, List.length_nil, List.length_append, List.length_map, List.length_replicate, List.length_set]; omega)
theorem cmul_small {i j : Int} (h : -(2 ^ 64) < i ∧ i < 2 ^ 64) : CMul i j := .inl h
theorem cmul_right {i j : Int} (h : -(2 ^ 64) < j ∧ j < 2 ^ 64) : CMul i j := .inr h
/-! ### rows of numbers -/
/-- a list of n numbers from 0 on, below a million -/
def Row (H : Hp) (a : Addr) (xs : List Int) : Prop := H a = some (.lst (xs.map V.int)) ∧ ∀ x ∈ xs, 0 ≤ x ∧ x < 1000000
theorem Row.keep {S : List Addr} {H H' : Hp} {a : Addr} {xs : List Int} (h : Row H a xs) (k : Keep S H H') (n : a ∉ S) : Row H' a xs := ⟨k _ _ n h.1, h.2⟩
theorem Row.get {xs : List Int} (h : ∀ x ∈ xs, 0 ≤ x ∧ x < 1000000) {i : Nat} (hi : i < xs.length) : ∃ x : Int, (xs.map V.int)[i]? = some (.int x) ∧ 0 ≤ x ∧ x < 1000000 := by
  refine ⟨xs[i], ?_, h _ (List.getElem_mem hi)⟩
  rw [List.getElem?_map, List.getElem?_eq_getElem hi]
  rfl
def spCell (K : PySem.W.Frag) : Sp := fun vs H Q _ => ∃ (a : Addr) (k : Int) (ns : List Int), vs = [.ref a, .int k] ∧ SqL K H a (ns.map V.int) ∧ 0 ≤ k ∧ ∀ c, Q (.int c) H
theorem rd_cell (K : PySem.W.Frag) : ∀ vs H Q E, spCell K vs H Q E → run (t__law_cell_at K) (L2.start N__law_cell_at vs) H Q := by
  rintro _ H Q _ ⟨a, k, ns, rfl, hS, k0, q⟩
  show run (t__law_cell_at K) [some (.ref a), some (.int k)] H Q
  unfold t__law_cell_at
  walk_at "sx"
  refine g_lenQ hS ?_
  walk_at "sx"
  rw [List.length_map]
  by_cases h : k < (ns.length : Int)
  · rw [if_pos h]
    have e : ((ns.map V.int))[k.toNat]? = some (.int ns[k.toNat]) := by
      rw [List.getElem?_map, List.getElem?_eq_getElem (show k.toNat < ns.length by omega)]
      rfl
    exact g_ixQ hS (at_lit k.toNat (by omega) e) (q _)
  · rw [if_neg h]
    unfold t__law_cell_at_r1
    walk_at "sx"
    exact q _
def spRow : Sp := fun vs H Q _ => ∃ (c : Int) (n : Nat), vs = [.int c, .int (n : Nat)] ∧ n ≤ 100 ∧ ∀ p H' xs, H p = none → Keep [] H H' → xs.length = n → Row H' p xs → Q (.ref p) H'
theorem mem_snoc {xs : List Int} {y : Int} (h : ∀ x ∈ xs, 0 ≤ x ∧ x < 1000000) (hy : 0 ≤ y ∧ y < 1000000) : ∀ x ∈ xs ++ [y], 0 ≤ x ∧ x < 1000000 := fun x hx => by
  rcases List.mem_append.mp hx with hx | hx
  · exact h x hx
  · rw [List.mem_singleton.mp hx]; exact hy
theorem rd_row (K : PySem.W.Frag) : ∀ vs H Q E, spRow vs H Q E → run (t__law_row K) (L2.start N__law_row vs) H Q := by
  rintro _ H Q _ ⟨c, n, rfl, hn, q⟩
  show run (t__law_row K) [some (.int c), some (.int (n : Nat)), none, none, none] H Q
  have fin : ∀ (f : Addr) (H1 : Hp) (nb : Int), H f = none → Keep [] H H1 → H1 f = some (.lst []) → (1000000000000000000 ≤ (if c < 0 then -c else c) ∨ (0 ≤ nb ∧ nb < 2147483647)) →
      t__law_row_r2 K { nx := fun _ H' => Q .non H', rt := Q } [some (.int c), some (.int (n : Nat)), some (.ref f), some (.int nb), none] H1 := fun f H1 nb nf k1 e1 hnb => by
    unfold t__law_row_r2
    walk_at "sx"
    refine g_FR1 (by omega) (by omega) ⟨fun i σ H' => ∃ (xs : List Int) (nb : Int) (y : Option V), σ = [some (.int c), some (.int (n : Nat)), some (.ref f), some (.int nb), y] ∧ xs.length = i ∧ Keep [] H H' ∧ Row H' f xs ∧ (1000000000000000000 ≤ (if c < 0 then -c else c) ∨ (0 ≤ nb ∧ nb < 2147483647)), ⟨[], nb, none, rfl, rfl, k1, ⟨e1, fun _ h => (List.not_mem_nil h).elim⟩, hnb⟩, ?_, ?_⟩
    · rintro i σ H2 hi ⟨xs, nb, y, rfl, hl, k2, ⟨e2, hx⟩, hb⟩
      unfold t__law_row_b1
      walk_at "sx"
      refine ⟨⟨by decide, by decide, by decide⟩, ?_⟩
      have hi' : (i : Int) < 100 := by omega
      by_cases h : (if c < 0 then -c else c) < 1000000000000000000
      · rw [if_pos h]
        walk_at "sx"
        have hb' : 0 ≤ nb ∧ nb < 2147483647 := by omega
        refine ⟨cmul_right (by decide), cmul_small (by decide), by decide, .inl ⟨rfl, _, .inl (.inl e2)⟩, ⟨by decide, by decide, ?_⟩, by decide, ⟨by decide, by decide⟩, ⟨by decide, by decide, by decide⟩, by decide, ?_⟩
        · have h1 := Int.emod_nonneg (nb * 48271 + 7 * (i : Int) + 11) (show (2147483647 : Int) ≠ 0 by decide)
          have h2 := Int.emod_lt_of_pos (nb * 48271 + 7 * (i : Int) + 11) (show (0 : Int) < 2147483647 by decide)
          omega
        refine g_append e2 (by rw [List.length_map]; exact len_lt (by omega)) fun H3 k3 e3 => ?_
        refine ⟨xs ++ [_], _, _, rfl, by simp [hl], k2.past k3 nf, ⟨by rw [List.map_append]; exact e3, mem_snoc hx ⟨Int.emod_nonneg _ (by decide), Int.emod_lt_of_pos _ (by decide)⟩⟩, .inr ⟨Int.emod_nonneg _ (by decide), Int.emod_lt_of_pos _ (by decide)⟩⟩
      · rw [if_neg h]
        walk_at "sx"
        refine ⟨.inl ⟨rfl, _, .inl (.inl e2)⟩, ⟨by decide, by decide, by decide⟩, by decide, g_append e2 (by rw [List.length_map]; exact len_lt (by omega)) fun H3 k3 e3 => ?_⟩
        walk_at "sx"
        refine ⟨⟨by decide, by decide, by decide⟩, ⟨by decide, by decide⟩, xs ++ [_], _, _, rfl, by simp [hl], k2.past k3 nf, ⟨by rw [List.map_append]; exact e3, mem_snoc hx ⟨Int.emod_nonneg _ (by decide), Int.emod_lt_of_pos _ (by decide)⟩⟩, .inl (by omega)⟩
    · rintro σ H2 ⟨xs, nb, y, rfl, hl, k2, hr, hb⟩
      unfold t__law_row_r1
      walk_at "sx"
      exact q f H2 xs nf k2 (by omega) hr
  unfold t__law_row
  walk_at "sx"
  refine ⟨by walk_at "sz", fun f H1 nf k1 e1 => ?_⟩
  walk_at "sx"
  refine ⟨⟨by decide, by decide, by decide⟩, ?_⟩
  by_cases h : (if c < 0 then -c else c) < 1000000000000000000
  · rw [if_pos h]
    walk_at "sx"
    exact ⟨by decide, fin f H1 _ nf k1 e1 (.inr ⟨Int.emod_nonneg _ (by decide), Int.lt_trans (Int.emod_lt_of_pos _ (by decide)) (by decide)⟩)⟩
  · rw [if_neg h]
    exact fin f H1 _ nf k1 e1 (.inl (by omega))
/-! ### texts by their signs -/
def cl (z : Str) : List Nat := z.cps.toList
theorem cl_app (x y : Str) : cl (x ++ y) = cl x ++ cl y := PySem.W.KT.app_list x y
theorem cl_inj {x y : Str} (h : cl x = cl y) : x = y := by
  obtain ⟨a⟩ := x
  obtain ⟨b⟩ := y
  exact congrArg Str.mk (Array.ext' h)
theorem cl_len (z : Str) : z.length = (cl z).length := by
  show z.cps.size = z.cps.toList.length
  rw [Array.length_toList]
theorem cl_cut (z : Str) (lo hi : Option Int) : cl (cutS z lo hi) = ((cl z).drop (HT.sIx z.length 0 lo)).take (HT.sIx z.length z.length hi - HT.sIx z.length 0 lo) := by
  unfold cl cutS
  simp
theorem cl_one (c : Nat) : cl ⟨#[c]⟩ = [c] := rfl
theorem cl_join0 : ∀ ys : List Str, cl (Txt.join "" ys) = (ys.map cl).flatten := by
  intro ys
  have h := TL.tl_join "" ys
  rw [TL.join_eq]
  have e : ∀ l : List (List Nat), TL.joinL [] l = l.flatten := by
    intro l
    induction l with
    | nil => rfl
    | cons a r ih =>
      cases r with
      | nil => simp [TL.joinL]
      | cons b r => 
        simp only [TL.joinL, List.nil_append, List.flatten_cons]
        rw [ih]
        simp
  exact h.trans (e _)
def sgn (i : Nat) : Nat := if i < 26 then 97 + i else 48 + (i - 26)
theorem sgn_at : ∀ i, i < 36 → (cl "abcdefghijklmnopqrstuvwxyz0123456789")[i]? = some (sgn i) := by decide +kernel
theorem sgn_inj {i j : Nat} (hi : i < 36) (hj : j < 36) (h : sgn i = sgn j) : i = j := by
  unfold sgn at h
  split at h <;> split at h <;> omega
def isLt (c : Nat) : Prop := 97 ≤ c ∧ c ≤ 122
def isSg (c : Nat) : Prop := isLt c ∨ (48 ≤ c ∧ c ≤ 57)
theorem sgn_sg {i : Nat} (h : i < 36) : isSg (sgn i) := by
  unfold isSg isLt sgn
  split <;> omega
theorem sgn_lt {i : Nat} (h : i < 26) : isLt (sgn i) := by
  unfold isLt sgn
  rw [if_pos h]
  omega
/-- a name by its signs -/
def NameOk (l : List Nat) : Prop := 1 ≤ l.length ∧ l.length ≤ 8 ∧ (∀ c ∈ l, isSg c) ∧ ∀ c, l.head? = some c → isLt c
instance (c : Nat) : Decidable (isLt c) := by unfold isLt; infer_instance
instance (c : Nat) : Decidable (isSg c) := by unfold isSg; infer_instance
def nameB (l : List Nat) : Bool := decide (1 ≤ l.length) && decide (l.length ≤ 8) && l.all (fun c => decide (isSg c)) && (l.take 1).all (fun c => decide (isLt c))
theorem nameB_ok {l : List Nat} (h : nameB l = true) : NameOk l := by
  unfold nameB at h
  simp only [Bool.and_eq_true, decide_eq_true_eq, List.all_eq_true] at h
  obtain ⟨⟨⟨h1, h2⟩, h3⟩, h4⟩ := h
  refine ⟨h1, h2, h3, fun c hc => h4 c ?_⟩
  cases l with
  | nil => cases hc
  | cons a r => cases hc; simp
/-! ### names -/
/-- the word with the sign c at its place t -/
def putAt (w : List Nat) (t c : Nat) : List Nat := w.take t ++ [c] ++ w.drop (t + 1)
theorem putAt_len {w : List Nat} {t c : Nat} (h : t < w.length) : (putAt w t c).length = w.length := by
  unfold putAt
  simp
  omega
theorem putAt_get {w : List Nat} {t c : Nat} (h : t < w.length) : (putAt w t c)[t]? = some c := by
  unfold putAt
  rw [List.append_assoc, List.getElem?_append_right (by simp; omega)]
  simp
  have : t - min t w.length = 0 := by omega
  rw [this]
  rfl
theorem putAt_sg {w : List Nat} {t c : Nat} (h : ∀ x ∈ w, isSg x) (hc : isSg c) : ∀ x ∈ putAt w t c, isSg x := by
  intro x hx
  unfold putAt at hx
  simp only [List.mem_append, List.mem_singleton] at hx
  rcases hx with (hx | rfl) | hx
  · exact h x (List.mem_of_mem_take hx)
  · exact hc
  · exact h x (List.mem_of_mem_drop hx)
theorem putAt_head {w : List Nat} {t c : Nat} (hl : t < w.length) (h : ∀ x, w.head? = some x → isLt x) (hc : t = 0 → isLt c) : ∀ x, (putAt w t c).head? = some x → isLt x := by
  intro x hx
  unfold putAt at hx
  cases t with
  | zero =>
    simp at hx
    rw [← hx]
    exact hc rfl
  | succ t =>
    cases w with
    | nil => exact absurd hl (by simp)
    | cons a r =>
      simp at hx
      exact h x (by simp [hx])
theorem take_name {l : List Nat} {n : Nat} (h1 : 1 ≤ l.length) (h2 : l.length ≤ 8) (h3 : ∀ c ∈ l, isSg c) (h4 : ∀ c, l.head? = some c → isLt c) (hn : 1 ≤ n) : NameOk (l.take n) := by
  refine ⟨by rw [List.length_take]; omega, by rw [List.length_take]; omega, fun c hc => h3 c (List.mem_of_mem_take hc), fun c hc => h4 c ?_⟩
  cases l with
  | nil => simp at hc
  | cons a r =>
    obtain ⟨m, rfl⟩ : ∃ m, n = m + 1 := ⟨n - 1, by omega⟩
    simpa using hc
theorem words_special : Txt.split "free to at sent there cut done off call told passed on open shut grade bare held" " " = (["free", "to", "at", "sent", "there", "cut", "done", "off", "call", "told", "passed", "on", "open", "shut", "grade", "bare", "held"] : List String).map Str.ofString := by decide +kernel
def specials : List Str := (["free", "to", "at", "sent", "there", "cut", "done", "off", "call", "told", "passed", "on", "open", "shut", "grade", "bare", "held", "moved", "stands", "drives"] : List String).map Str.ofString
theorem specials_ok : ∀ z ∈ specials, NameOk (cl z) := by
  intro z hz
  have h : ∀ z ∈ specials, nameB (cl z) = true := by decide +kernel
  exact nameB_ok (h z hz)
theorem atI_sgn {i : Int} (h0 : 0 ≤ i) (h1 : i < 36) : atI (Str.cps "abcdefghijklmnopqrstuvwxyz0123456789").toList i = some (sgn i.toNat) :=
  at_lit i.toNat (by omega) (sgn_at i.toNat (by omega))
/-- names of a row: unlike ones -/
def spNames : Sp := fun vs H Q _ => ∃ (r : Addr) (m : Nat) (xs : List Int), vs = [.ref r, .int (m : Nat)] ∧ Row H r xs ∧ 12 ≤ xs.length ∧ xs.length ≤ 100 ∧ 1 ≤ m ∧ m ≤ 15 ∧
  ∀ p H' (ys : List Str), H p = none → Keep [] H H' → H' p = some (.lst (ys.map V.str)) → ys.length = m → ys.Nodup → (∀ y ∈ ys, NameOk (cl y)) → Q (.ref p) H'
theorem nodup_set {ys : List Str} {j : Nat} {z : Str} (h : ys.Nodup) (hz : z ∉ ys) : (ys.set j z).Nodup := by
  induction ys generalizing j with
  | nil => exact h
  | cons a r ih =>
    cases j with
    | zero =>
      show (z :: r).Nodup
      exact List.nodup_cons.mpr ⟨fun q => hz (List.mem_cons_of_mem _ q), (List.nodup_cons.mp h).2⟩
    | succ j =>
      show (a :: r.set j z).Nodup
      refine List.nodup_cons.mpr ⟨fun q => ?_, ih (List.nodup_cons.mp h).2 fun q => hz (List.mem_cons_of_mem _ q)⟩
      rcases List.mem_or_eq_of_mem_set q with q | q
      · exact (List.nodup_cons.mp h).1 q
      · exact hz (q ▸ List.mem_cons_self)
theorem inV_str {z : Str} {ys : List Str} : inV (.str z) (ys.map V.str) = decide (z ∈ ys) := by
  unfold inV
  rw [Bool.eq_iff_iff, List.any_eq_true, decide_eq_true_eq]
  constructor
  · rintro ⟨v, hv, e⟩
    obtain ⟨y, hy, rfl⟩ := List.mem_map.mp hv
    have e' : y = z := by simpa [eqV] using e
    exact e' ▸ hy
  · intro h
    exact ⟨.str z, List.mem_map.mpr ⟨z, h, rfl⟩, by simp [eqV]⟩
theorem flat_strs (ys : List Str) : (ys.map V.str).all flatV = true := by
  rw [List.all_eq_true]
  intro v hv
  obtain ⟨y, _, rfl⟩ := List.mem_map.mp hv
  rfl
theorem e36 {P : Prop} [Decidable P] : ∃ w : Int, (atI [V.int 36, V.int 26] (if P then 1 else 0) = some (.int w)) ∧ w = if P then 26 else 36 := by
  by_cases h : P
  · rw [if_pos h]
    exact ⟨26, rfl, by rw [if_pos h]⟩
  · rw [if_neg h]
    exact ⟨36, rfl, by rw [if_neg h]⟩
theorem flat1 : ∀ cs : List Nat, (cs.map fun c => [c]).flatten = cs
  | [] => rfl
  | c :: cs => by simp [flat1 cs]
theorem mul_at {x : Int} (xs : List V) (n : Nat) (h : xs.length = n) (h0 : 0 < n) : ∃ v, atI xs (x % (n : Int)) = some v ∧ v ∈ xs := by
  have h1 := Int.emod_nonneg x (show ((n : Nat) : Int) ≠ 0 by omega)
  have h2 := Int.emod_lt_of_pos x (show 0 < ((n : Nat) : Int) by omega)
  have hl : (x % (n : Int)).toNat < xs.length := by omega
  exact ⟨xs[(x % (n : Int)).toNat], at_lit _ (by omega) (List.getElem?_eq_getElem hl), List.getElem_mem hl⟩
theorem cl_upto (z : Str) (k : Nat) : cl (cutS z none (some (k : Int))) = (cl z).take k := by
  rw [cl_cut, HT.sIx_nat, HT.sIx_none, List.drop_zero, Nat.sub_zero, cl_len]
  by_cases h : k ≤ (cl z).length
  · rw [Nat.min_eq_left h]
  · rw [Nat.min_eq_right (by omega), List.take_length, List.take_of_length_le (by omega)]
theorem cl_from (z : Str) (k : Nat) : cl (cutS z (some (k : Int)) none) = (cl z).drop k := by
  rw [cl_cut, HT.sIx_nat, HT.sIx_none, cl_len]
  by_cases h : k ≤ (cl z).length
  · rw [Nat.min_eq_left h, List.take_of_length_le (by rw [List.length_drop]; omega)]
  · rw [Nat.min_eq_right (by omega), Nat.sub_self, List.take_zero, List.drop_of_length_le (by omega)]
/-- the k-th name -/
def nameC (cs : List Nat) (t sz : Nat) (x st wd lot : Int) (k : Nat) : List Nat :=
  (putAt cs t (sgn ((x + (k : Int) * st) % wd).toNat)).take ((sz : Int) - lot % 2 * (3 * (k : Int) % ((sz : Int) - (t : Int)))).toNat
theorem step_inj {x st wd : Int} (hst : st = 1 ∨ st = 5 ∨ st = 7 ∨ st = 11) (hwd : wd = 26 ∨ wd = 36) {i j : Nat} (hi : i < 15) (hj : j < 15) (h : (x + (i : Int) * st) % wd = (x + (j : Int) * st) % wd) : i = j := by
  rcases hst with rfl | rfl | rfl | rfl <;> rcases hwd with rfl | rfl <;> omega
theorem lot01 {lot : Int} : lot % 2 = 0 ∨ lot % 2 = 1 := by omega
theorem nameC_cut {t sz : Nat} {lot : Int} {k : Nat} (ht : t < sz) : t + 1 ≤ ((sz : Int) - lot % 2 * (3 * (k : Int) % ((sz : Int) - (t : Int)))).toNat ∧ (0 : Int) ≤ (sz : Int) - lot % 2 * (3 * (k : Int) % ((sz : Int) - (t : Int))) := by
  have h1 := Int.emod_nonneg (3 * (k : Int)) (show (sz : Int) - t ≠ 0 by omega)
  have h2 := Int.emod_lt_of_pos (3 * (k : Int)) (show (0 : Int) < (sz : Int) - t by omega)
  rcases lot01 (lot := lot) with e | e <;> rw [e] <;> omega
theorem nameC_inj {cs : List Nat} {t sz : Nat} {x st wd lot : Int} (hst : st = 1 ∨ st = 5 ∨ st = 7 ∨ st = 11) (hwd : wd = 26 ∨ wd = 36) (hl : cs.length = sz) (ht : t < sz) {i j : Nat} (hi : i < 15) (hj : j < 15)
    (h : nameC cs t sz x st wd lot i = nameC cs t sz x st wd lot j) : i = j := by
  have get : ∀ k, (nameC cs t sz x st wd lot k)[t]? = some (sgn ((x + (k : Int) * st) % wd).toNat) := fun k => by
    unfold nameC
    have := (nameC_cut (lot := lot) (k := k) ht).1
    rw [List.getElem?_take_of_lt (by omega), putAt_get (by omega)]
  have e := (get i).symm.trans ((congrArg (fun l => l[t]?) h).trans (get j))
  have b1 : ∀ k : Nat, 0 ≤ (x + (k : Int) * st) % wd ∧ (x + (k : Int) * st) % wd < 36 := fun k => by
    have h1 := Int.emod_nonneg (x + (k : Int) * st) (show wd ≠ 0 by omega)
    have h2 := Int.emod_lt_of_pos (x + (k : Int) * st) (show 0 < wd by omega)
    omega
  have e2 := sgn_inj (by have := b1 i; omega) (by have := b1 j; omega) (Option.some.inj e)
  refine step_inj (x := x) hst hwd hi hj ?_
  have := b1 i
  have := b1 j
  omega
theorem nameC_ok {cs : List Nat} {t sz : Nat} {x st wd lot : Int} {k : Nat} (hl : cs.length = sz) (ht : t < sz) (h8 : sz ≤ 8) (hs : ∀ c ∈ cs, isSg c) (hh : ∀ c, cs.head? = some c → isLt c) (hwd : wd = 26 ∨ wd = 36) (h0 : t = 0 → wd = 26) : NameOk (nameC cs t sz x st wd lot k) := by
  have h1 := Int.emod_nonneg (x + (k : Int) * st) (show wd ≠ 0 by omega)
  have h2 := Int.emod_lt_of_pos (x + (k : Int) * st) (show 0 < wd by omega)
  have hp := putAt_len (w := cs) (c := sgn ((x + (k : Int) * st) % wd).toNat) (t := t) (by omega)
  refine take_name (by omega) (by omega) (putAt_sg hs (sgn_sg (by omega))) (putAt_head (by omega) hh fun e => ?_) (by have := (nameC_cut (lot := lot) (k := k) ht).1; omega)
  have := h0 e
  exact sgn_lt (by omega)
theorem nodup_cl {ys : List Str} (h : (ys.map cl).Nodup) : ys.Nodup := by
  induction ys with
  | nil => exact List.nodup_nil
  | cons a r ih =>
    rw [List.map_cons, List.nodup_cons] at h
    exact List.nodup_cons.mpr ⟨fun q => h.1 (List.mem_map.mpr ⟨a, q, rfl⟩), ih h.2⟩
theorem nodup_names {f : Nat → List Nat} (hf : ∀ i j, i < 15 → j < 15 → f i = f j → i = j) : ∀ n, n ≤ 15 → ((List.range n).map f).Nodup := by
  intro n
  induction n with
  | zero => intro _; exact List.nodup_nil
  | succ n ih =>
    intro hn
    rw [List.range_succ, List.map_append, List.nodup_append]
    refine ⟨ih (by omega), by simp, fun a ha b hb e => ?_⟩
    obtain ⟨i, hi, rfl⟩ := List.mem_map.mp ha
    rw [List.mem_singleton.mp hb] at e
    have := hf i n (by have := List.mem_range.mp hi; omega) (by omega) e
    have := List.mem_range.mp hi
    omega
theorem rd_names (K : PySem.W.Frag) : ∀ vs H Q E, spNames vs H Q E → run (t__law_names K) (L2.start N__law_names vs) H Q := by
  rintro _ H Q _ ⟨r, m, xs, rfl, ⟨hr, hx⟩, l20, l100, m1, m10, q⟩
  show run (t__law_names K) [some (.ref r), some (.int (m : Nat)), none, none, none, none, none, none, none, none, none, none, none, none, none] H Q
  obtain ⟨x0, e0, b0, c0⟩ := Row.get hx (i := 0) (by omega)
  obtain ⟨x1, e1, b1, c1⟩ := Row.get hx (i := 1) (by omega)
  obtain ⟨x10, e10, b10, c10⟩ := Row.get hx (i := 10) (by omega)
  obtain ⟨xl, el, bl, cl'⟩ := Row.get hx (i := xs.length - 1) (by omega)
  unfold t__law_names
  walk_at "sx"
  refine g_ixL hr (at_lit 0 rfl e0) ?_
  walk_at "sx"
  refine ⟨by decide, g_ixL hr (at_lit 1 rfl e1) ?_⟩
  walk_at "sx"
  have hs1 := Int.emod_nonneg x0 (show (8 : Int) ≠ 0 by decide)
  have hs2 := Int.emod_lt_of_pos x0 (show (0 : Int) < 8 by decide)
  generalize hsz : 1 + x0 % 8 = size
  have ha1 := Int.emod_nonneg x1 (show size ≠ 0 by omega)
  have ha2 := Int.emod_lt_of_pos x1 (show 0 < size by omega)
  generalize hat : x1 % size = t at ha1 ha2
  refine ⟨by omega, ⟨_, rfl⟩, ?_⟩
  obtain ⟨sz, rfl⟩ : ∃ n : Nat, size = (n : Int) := ⟨size.toNat, by omega⟩
  obtain ⟨at0, rfl⟩ : ∃ n : Nat, t = (n : Int) := ⟨t.toNat, by omega⟩
  refine g_CR1 (S := []) (fun _ h => (List.not_mem_nil h).elim) (by omega) (by omega) ⟨fun i H' acc => ∃ cs : List Nat, acc = cs.map (fun c => V.str ⟨#[c]⟩) ∧ cs.length = i ∧ (∀ c ∈ cs, isSg c) ∧ ∀ c, cs.head? = some c → isLt c, ?_, ?_, ?_⟩
  · intro D H2 _ _
    exact ⟨[], rfl, rfl, fun _ h => (List.not_mem_nil h).elim, fun _ h => nomatch h⟩
  · rintro D i H2 acc R R0 nD hi k2 eD ⟨cs, rfl, hcl, hcs, hch⟩ hR _
    walk_at "sx"
    obtain ⟨xi, ei, bi, ci⟩ := Row.get hx (i := 2 + i) (by omega)
    refine g_ixL (k2 _ _ nin0 hr) (at_lit (2 + i) (by omega) ei) ?_
    walk_at "sx"
    refine ⟨by walk_at "sz", fun l H3 n3 k3 e3 => g_eq rfl ?_⟩
    walk_at "sx"
    obtain ⟨w, hw, ew⟩ := e36 (P := (i : Int) = 0)
    refine g_ixL e3 hw ?_
    walk_at "sx"
    have hw0 : 0 < w ∧ w ≤ 36 := by rw [ew]; split <;> omega
    have h1 := Int.emod_nonneg xi (show w ≠ 0 by omega)
    have h2 := Int.emod_lt_of_pos xi hw0.1
    refine ⟨hw0.1, g_ixS (by decide) (atI_sgn h1 (by omega)) ?_⟩
    refine hR _ _ k3 (by rw [List.length_map]; exact len_lt (by omega)) fun H5 k5 => ⟨cs ++ [_], by rw [List.map_append]; rfl, by simp [hcl], fun c hc => ?_, fun c hc => ?_⟩
    · rcases List.mem_append.mp hc with hc | hc
      · exact hcs c hc
      · rw [List.mem_singleton.mp hc]
        exact sgn_sg (by omega)
    · cases cs with
      | nil =>
        have e : i = 0 := by simpa using hcl.symm
        subst e
        have : w = 26 := by rw [ew]; simp
        simp at hc
        rw [← hc]
        exact sgn_lt (by omega)
      | cons a rr => exact hch c (by simpa using hc)
  · rintro D H2 acc nD k2 eD ⟨cs, rfl, hcl, hcs, hch⟩
    rw [Int.toNat_natCast] at hcl
    have hr2 := k2 _ _ nin0 hr
    refine ⟨"", D, cs.map (fun c => ⟨#[c]⟩), rfl, rfl, .inl (lst_sq (by rw [eD, List.map_map]; rfl)), ?_, ?_⟩
    · have e : ((cs.map fun c => (⟨#[c]⟩ : Str)).map (·.length)).sum = cs.length := by
        clear hcl hcs hch eD
        induction cs with
        | nil => rfl
        | cons a r ih => 
          simp only [List.map_cons, List.sum_cons, List.length_cons, ih]
          show 1 + r.length = r.length + 1
          omega
      rw [e]
      show cs.length + (cs.map fun c => (⟨#[c]⟩ : Str)).length * 0 ≤ 16777216
      omega
    generalize hword : Txt.join "" (cs.map fun c => (⟨#[c]⟩ : Str)) = word
    have ecl : cl word = cs := by
      rw [← hword, cl_join0, List.map_map]
      have : (cl ∘ fun c => (⟨#[c]⟩ : Str)) = fun c => [c] := rfl
      rw [this, flat1]
    clear hword
    walk_at "sx"
    refine ⟨by walk_at "sz", fun l3 H3 n3 k3 f3 => g_eq rfl ?_⟩
    walk_at "sx"
    obtain ⟨wd, hw, ew⟩ := e36 (P := (at0 : Int) = 0)
    have hwd : wd = 26 ∨ wd = 36 := by rw [ew]; split <;> simp
    have hwd0 : at0 = 0 → wd = 26 := fun e => by rw [ew, if_pos (by omega)]
    refine g_ixL f3 hw ?_
    walk_at "sx"
    refine ⟨by walk_at "sz", fun l4 H4 n4 k4 f4 => ?_⟩
    have hr4 := k4 _ _ nin0 (k3 _ _ nin0 hr2)
    refine g_ixL hr4 (at_lit 10 rfl e10) ?_
    walk_at "sx"
    refine ⟨by decide, ?_⟩
    obtain ⟨v, hv, mv⟩ := mul_at (x := x10) [V.int 1, V.int 5, V.int 7, V.int 11] 4 rfl (by decide)
    obtain ⟨st, rfl, hst⟩ : ∃ st : Int, v = .int st ∧ (st = 1 ∨ st = 5 ∨ st = 7 ∨ st = 11) := by
      simp only [List.mem_cons, List.not_mem_nil, or_false] at mv
      rcases mv with rfl | rfl | rfl | rfl
      · exact ⟨1, rfl, by simp⟩
      · exact ⟨5, rfl, by simp⟩
      · exact ⟨7, rfl, by simp⟩
      · exact ⟨11, rfl, by simp⟩
    refine g_ixL f4 hv (g_lenL hr4 ?_)
    walk_at "sx"
    refine g_ixL hr4 (at_lit (xs.length - 1) (by rw [List.length_map]; omega) el) ⟨by walk_at "sz", fun nm H5 n5 k5 f5 => ?_⟩
    have hr5 := k5 _ _ nin0 hr4
    have k25 : Keep [] H H5 := k2.trans (k3.trans (k4.trans k5))
    have nnm : H nm = none := (k2.trans (k3.trans k4)).free nin0 n5
    have nmr : r ≠ nm := ne_of_none hr4 n5
    have htz : at0 < sz := by omega
    have hz8 : sz ≤ 8 := by omega
    obtain ⟨x11, e11, b11, c11⟩ := Row.get hx (i := 11) (by omega)
    refine g_FR1 (by omega) (by omega) ⟨fun i σ H' => ∃ (ys : List Str) (y5 y11 y12 : Option V), σ = [some (.ref r), some (.int (m : Nat)), some (.str "abcdefghijklmnopqrstuvwxyz0123456789"), some (.int (sz : Nat)), some (.int (at0 : Nat)), y5, some (.str word), some (.int wd), some (.int st), some (.int xl), some (.ref nm), y11, y12, none, none] ∧
      ys.map cl = (List.range i).map (nameC cs at0 sz x11 st wd xl) ∧ Keep [nm] H5 H' ∧ H' nm = some (.lst (ys.map V.str)), ⟨[], none, none, none, rfl, rfl, Keep.refl _ _, f5⟩, ?_, ?_⟩
    · rintro i σ H6 hi ⟨ys, y5, y11, y12, rfl, hys, k6, f6⟩
      have hr6 := k6 _ _ (nin1 nmr) hr5
      unfold t__law_names_b1
      walk_at "sx"
      refine g_ixL hr6 (at_lit 11 rfl e11) ?_
      walk_at "sx"
      have hidx1 := Int.emod_nonneg (x11 + (i : Int) * st) (show wd ≠ 0 by omega)
      have hidx2 := Int.emod_lt_of_pos (x11 + (i : Int) * st) (show 0 < wd by omega)
      refine ⟨cmul_right (by omega), by omega, g_ixS (by decide) (atI_sgn hidx1 (by omega)) (g_slS (by rw [cl_len, ecl]; exact len_le (by omega)) ?_)⟩
      walk_at "sx"
      have lw : word.length = sz := by rw [cl_len, ecl, hcl]
      generalize hA : cutS word none (some (at0 : Int)) = A
      have cA : cl A = cs.take at0 := by rw [← hA, cl_upto, ecl]
      have lA : A.length ≤ 8 := by rw [cl_len, cA, List.length_take]; omega
      have lB : (⟨#[sgn ((x11 + (i : Int) * st) % wd).toNat]⟩ : Str).length = 1 := rfl
      refine ⟨len_le (by omega), g_slS (len_le (by omega)) ?_⟩
      walk_at "sx"
      have e1' : (at0 : Int) + 1 = ((at0 + 1 : Nat) : Int) := by omega
      rw [e1']
      generalize hC : cutS word (some ((at0 + 1 : Nat) : Int)) none = C
      have cC : cl C = cs.drop (at0 + 1) := by rw [← hC, cl_from, ecl]
      have lC : C.length ≤ 8 := by rw [cl_len, cC, List.length_drop]; omega
      have lAB : (A ++ (⟨#[sgn ((x11 + (i : Int) * st) % wd).toNat]⟩ : Str)).length ≤ 9 := by
        rw [cl_len, cl_app, List.length_append, ← cl_len, ← cl_len]
        omega
      refine ⟨len_le (by omega), .inl ⟨rfl, _, .inl (.inl f6)⟩, by decide, ?_⟩
      have cut := nameC_cut (lot := xl) (k := i) htz
      refine ⟨cmul_small (by decide), by omega, cmul_small (by omega), g_slS ?_ ?_⟩
      · rw [cl_len, cl_app, List.length_append, ← cl_len, ← cl_len]
        exact len_le (by omega)
      generalize hN : A ++ (⟨#[sgn ((x11 + (i : Int) * st) % wd).toNat]⟩ : Str) ++ C = N
      have cN : cl N = putAt cs at0 (sgn ((x11 + (i : Int) * st) % wd).toNat) := by
        rw [← hN, cl_app, cl_app, cA, cC, cl_one]
        rfl
      refine g_append f6 (by rw [List.length_map]; have := congrArg List.length hys; simp at this; exact len_lt (by omega)) fun H7 k7 f7 => ?_
      refine ⟨ys ++ [_], _, _, _, rfl, ?_, k6.trans k7, by rw [List.map_append]; exact f7⟩
      rw [List.range_succ, List.map_append, List.map_append, hys]
      congr 1
      show [cl _] = [_]
      congr 1
      have e3 : (sz : Int) - xl % 2 * (3 * (i : Int) % ((sz : Int) - (at0 : Int))) = ((((sz : Int) - xl % 2 * (3 * (i : Int) % ((sz : Int) - (at0 : Int)))).toNat : Nat) : Int) := by omega
      rw [e3, cl_upto, cN]
      rfl
    · rintro σ H6 ⟨ys, y5, y11, y12, rfl, hys, k6, f6⟩
      rw [Int.toNat_natCast] at hys
      have ylen : ys.length = m := by have := congrArg List.length hys; simpa using this
      have ynd : ys.Nodup := nodup_cl (by rw [hys]; exact nodup_names (fun i j hi hj e => nameC_inj hst hwd hcl htz hi hj e) m m10)
      have yok : ∀ y ∈ ys, NameOk (cl y) := fun y hy => by
        have : cl y ∈ ys.map cl := List.mem_map.mpr ⟨y, hy, rfl⟩
        rw [hys] at this
        obtain ⟨k, _, ek⟩ := List.mem_map.mp this
        rw [← ek]
        exact nameC_ok hcl htz hz8 hcs hch hwd hwd0
      have k06 : Keep [] H H6 := k25.past k6 nnm
      unfold t__law_names_r2
      walk_at "sx"
      refine ⟨⟨_, rfl⟩, _, _, rfl, rfl, by decide, by decide +kernel, fun w1 H7 n7 k7 f7 => ?_⟩
      rw [words_special] at f7
      walk_at "sx"
      refine ⟨by walk_at "sz", fun w2 H8 n8 k8 f8 => ?_⟩
      walk_at "sx"
      refine g_addL (k8 _ _ nin0 f7) f8 (by walk_at "sz") fun w3 H9 n9 k9 f9 => ?_
      walk_at "sx"
      refine ⟨⟨by decide, by decide⟩, by decide, ?_⟩
      have f9' : H9 w3 = some (.lst (specials.map V.str)) := f9
      obtain ⟨v, hv, mv⟩ := mul_at (x := xl / 8) (specials.map V.str) 20 rfl (by decide)
      obtain ⟨sp, hsp, rfl⟩ := List.mem_map.mp mv
      refine g_ixL f9' hv ?_
      walk_at "sx"
      have k69 : Keep [] H6 H9 := k7.trans (k8.trans k9)
      have f6' := k69 _ _ nin0 f6
      refine ⟨⟨by decide, by decide⟩, by decide, g_eq rfl ⟨_, rfl, ?_⟩⟩
      have done : ∀ H' (zs : List Str) y5 y11 y12 x1 x2, Keep [nm] H9 H' → H' nm = some (.lst (zs.map V.str)) → zs.length = m → zs.Nodup → (∀ y ∈ zs, NameOk (cl y)) → t__law_names_r1 K { nx := fun x H' => Q V.non H', rt := Q }
          [some (V.ref r), some (V.int m), some (V.str "abcdefghijklmnopqrstuvwxyz0123456789"), some (V.int sz), some (V.int at0), y5, some (V.str word), some (V.int wd), some (V.int st), some (V.int xl), some (V.ref nm), y11, y12, x1, x2] H' := by
        intro H' zs y5 y11 y12 x1 x2 kz fz zl znd zok
        unfold t__law_names_r1
        walk_at "sx"
        exact q nm H' zs nnm ((k06.trans k69).past kz nnm) fz zl znd zok
      by_cases hc : decide (V.int (xl / 2 % 4) = V.int 1) = true
      · rw [if_pos hc]
        refine .inl ⟨nm, ys.map V.str, rfl, .inl (lst_sq f6'), rfl, flat_strs ys, _, rfl, ?_⟩
        rw [if_pos rfl, inV_str]
        by_cases hm : sp ∈ ys
        · rw [decide_eq_true hm]
          exact iteF (done _ ys _ _ _ _ _ (Keep.refl _ _) f6' ylen ynd yok)
        · rw [decide_eq_false hm]
          refine iteT ⟨⟨by decide, by decide⟩, by omega, ?_⟩
          have h1 := Int.emod_nonneg (xl / 160) (show (m : Int) ≠ 0 by omega)
          have h2 := Int.emod_lt_of_pos (xl / 160) (show (0 : Int) < m by omega)
          refine g_setL f6' (k := (xl / 160 % (m : Int)).toNat) ?_ fun H10 k10 f10 => ?_
          · unfold ixN
            rw [if_pos h1, List.length_map, if_pos (by omega)]
          · rw [← List.map_set] at f10
            refine done _ (ys.set (xl / 160 % (m : Int)).toNat sp) _ _ _ _ _ k10 f10 (by rw [List.length_set, ylen]) (nodup_set ynd hm) fun y hy => ?_
            rcases List.mem_or_eq_of_mem_set hy with hy | rfl
            · exact yok y hy
            · exact specials_ok _ hsp
      · rw [if_neg hc]
        exact done _ ys _ _ _ _ _ (Keep.refl _ _) f6' ylen ynd yok
/-! ### towns -/
def mV : Option Int → V
  | none => .non
  | some i => .int i
structure Rd where
  one : Str
  two : Str
  there : Option Int
  back : Option Int
structure Tn where
  places : List Str
  roads : List Rd
  stands : List Str
  reach : Int
def minOk (t : Option Int) : Prop := ∀ i, t = some i → 1 ≤ i ∧ i ≤ 60
structure RdOk (ys : List Str) (r : Rd) : Prop where
  one : r.one ∈ ys
  two : r.two ∈ ys
  ne : r.one ≠ r.two
  there : minOk r.there
  back : minOk r.back
  some : r.there ≠ none ∨ r.back ≠ none
structure TnOk (T : Tn) : Prop where
  p1 : 1 ≤ T.places.length
  p10 : T.places.length ≤ 10
  nd : T.places.Nodup
  nm : ∀ y ∈ T.places, NameOk (cl y)
  r18 : T.roads.length ≤ 18
  rd : ∀ r ∈ T.roads, RdOk T.places r
  s1 : 1 ≤ T.stands.length
  s5 : T.stands.length ≤ 5
  sn : T.stands.Nodup
  sp : ∀ y ∈ T.stands, y ∈ T.places
  re0 : 0 ≤ T.reach
  re1 : T.reach ≤ 120
def RdAt (H : Hp) (p : Addr) (r : Rd) : Prop := Tup H p [.str r.one, .str r.two, mV r.there, mV r.back]
/-- the roads' tuples, one by one -/
inductive RdsAt (H : Hp) : List V → List Rd → Prop
  | nil : RdsAt H [] []
  | cons {p : Addr} {r : Rd} {vs : List V} {rs : List Rd} : RdAt H p r → RdsAt H vs rs → RdsAt H (.ref p :: vs) (r :: rs)
def TnAt (H : Hp) (a : Addr) (T : Tn) : Prop := ∃ ap ar as vs, Tup H a [.ref ap, .ref ar, .ref as, .int T.reach] ∧ Tup H ap (T.places.map V.str) ∧ Tup H ar vs ∧ RdsAt H vs T.roads ∧ Tup H as (T.stands.map V.str)
/-- what is changed is no tuple -/
def NoTup (S : List Addr) (H : Hp) : Prop := ∀ a xs, Tup H a xs → a ∉ S
theorem noTup0 {H : Hp} : NoTup [] H := fun _ _ _ => nin0
theorem noTup1 {H : Hp} {l : Addr} {xs : List V} (h : H l = some (.lst xs)) : NoTup [l] H := fun _ _ t => nin1 (t.neL h)
theorem noTupNew {H : Hp} {l : Addr} (h : H l = none) : NoTup [l] H := fun a _ t => nin1 fun z => by
  obtain ⟨o, e⟩ := t.there
  rw [z, h] at e
  cases e
theorem RdAt.keep {S : List Addr} {H H' : Hp} {p : Addr} {r : Rd} (h : RdAt H p r) (k : Keep S H H') (n : NoTup S H) : RdAt H' p r := Tup.keep h k (n _ _ h)
theorem RdsAt.keep {S : List Addr} {H H' : Hp} (k : Keep S H H') (n : NoTup S H) : ∀ {vs : List V} {rs : List Rd}, RdsAt H vs rs → RdsAt H' vs rs
  | _, _, .nil => .nil
  | _, _, .cons h q => .cons (h.keep k n) (RdsAt.keep k n q)
theorem TnAt.keep {S : List Addr} {H H' : Hp} {a : Addr} {T : Tn} (h : TnAt H a T) (k : Keep S H H') (n : NoTup S H) : TnAt H' a T := by
  obtain ⟨ap, ar, as, vs, h1, h2, h3, h4, h5⟩ := h
  exact ⟨ap, ar, as, vs, h1.keep k (n _ _ h1), h2.keep k (n _ _ h2), h3.keep k (n _ _ h3), h4.keep k n, h5.keep k (n _ _ h5)⟩
theorem RdsAt.len {H : Hp} : ∀ {vs : List V} {rs : List Rd}, RdsAt H vs rs → vs.length = rs.length
  | _, _, .nil => rfl
  | _, _, .cons _ q => congrArg (· + 1) q.len
theorem RdsAt.snoc {H : Hp} {p : Addr} {r : Rd} (h : RdAt H p r) : ∀ {vs : List V} {rs : List Rd}, RdsAt H vs rs → RdsAt H (vs ++ [.ref p]) (rs ++ [r])
  | _, _, .nil => .cons h .nil
  | _, _, .cons h' q => .cons h' (RdsAt.snoc h q)
theorem RdsAt.get {H : Hp} : ∀ {vs : List V} {rs : List Rd} {i : Nat} {r : Rd}, RdsAt H vs rs → rs[i]? = some r → ∃ p, vs[i]? = some (.ref p) ∧ RdAt H p r
  | _, _, _, _, .nil, e => by simp at e
  | _, _, 0, _, .cons (p := p) h _, e => by
    simp at e
    subst e
    exact ⟨p, rfl, h⟩
  | _, _, i + 1, _, .cons _ q, e => by
    obtain ⟨p, h1, h2⟩ := RdsAt.get (i := i) q (by simpa using e)
    exact ⟨p, by simpa using h1, h2⟩
theorem turned_sub {ys : List Str} {a k : Nat} (ha : a ≤ ys.length) (hk : k ≤ ys.length) : (((ys ++ ys).drop a).take k).Sublist (ys.drop a ++ ys.take a) := by
  rw [List.drop_append_of_le_length ha, List.take_append]
  refine List.Sublist.append (List.take_sublist _ _) ?_
  have : k - (ys.drop a).length ≤ a := by rw [List.length_drop]; omega
  exact List.IsPrefix.sublist (List.take_prefix_take_left this)
theorem turned_nodup {ys : List Str} {a k : Nat} (h : ys.Nodup) (ha : a ≤ ys.length) (hk : k ≤ ys.length) : (((ys ++ ys).drop a).take k).Nodup := by
  have e : (ys.drop a ++ ys.take a).Nodup := by
    have h2 := h
    rw [← List.take_append_drop a ys, List.nodup_append] at h2
    rw [List.nodup_append]
    exact ⟨h2.2.1, h2.1, fun x hx y hy e => h2.2.2 y hy x hx e.symm⟩
  exact e.sublist (turned_sub ha hk)
theorem turned_mem {ys : List Str} {a k : Nat} : ∀ y ∈ ((ys ++ ys).drop a).take k, y ∈ ys := fun y hy => by
  have := List.mem_of_mem_drop (List.mem_of_mem_take hy)
  simpa using this
theorem e2v {P : Prop} [Decidable P] {x : V} : atI [x, V.non] (if P then 1 else 0) = some (if P then .non else x) := by
  by_cases h : P
  · rw [if_pos h, if_pos h]; rfl
  · rw [if_neg h, if_neg h]; rfl
def spRoad : Sp := fun vs H Q _ => ∃ (r nm : Addr) (xs : List Int) (ys : List Str), vs = [.ref r, .ref nm] ∧ Row H r xs ∧ 6 ≤ xs.length ∧ H nm = some (.lst (ys.map V.str)) ∧ 2 ≤ ys.length ∧ ys.length ≤ 10 ∧ ys.Nodup ∧
  ∀ p H' rd, Keep [] H H' → RdAt H' p rd → RdOk ys rd → Q (.ref p) H'
theorem at_str {ys : List Str} {i : Int} (h0 : 0 ≤ i) (h1 : i < ys.length) : ∃ y, atI (ys.map V.str) i = some (.str y) ∧ ys[i.toNat]? = some y := by
  have hl : i.toNat < ys.length := by omega
  refine ⟨ys[i.toNat], at_lit i.toNat (by omega) ?_, List.getElem?_eq_getElem hl⟩
  rw [List.getElem?_map, List.getElem?_eq_getElem hl]
  rfl
theorem nodup_ne {ys : List Str} (h : ys.Nodup) {i j : Nat} {a b : Str} (ha : ys[i]? = some a) (hb : ys[j]? = some b) (hij : i ≠ j) : a ≠ b := fun e => by
  subst e
  obtain ⟨h1, e1⟩ := List.getElem?_eq_some_iff.mp ha
  obtain ⟨h2, e2⟩ := List.getElem?_eq_some_iff.mp hb
  exact hij ((List.getElem_inj h).mp (e1.trans e2.symm))
theorem rd_road (K : PySem.W.Frag) : ∀ vs H Q E, spRoad vs H Q E → run (t__law_road K) (L2.start N__law_road vs) H Q := by
  rintro _ H Q _ ⟨r, nm, xs, ys, rfl, ⟨hr, hx⟩, l6, hn, n2, n10, nd, q⟩
  show run (t__law_road K) [some (.ref r), some (.ref nm), none, none, none, none, none] H Q
  obtain ⟨x0, e0, b0, c0⟩ := Row.get hx (i := 0) (by omega)
  obtain ⟨x1, e1, b1, c1⟩ := Row.get hx (i := 1) (by omega)
  obtain ⟨x2, e2, b2, c2⟩ := Row.get hx (i := 2) (by omega)
  obtain ⟨x3, e3, b3, c3⟩ := Row.get hx (i := 3) (by omega)
  obtain ⟨x4, e4, b4, c4⟩ := Row.get hx (i := 4) (by omega)
  obtain ⟨x5, e5, b5, c5⟩ := Row.get hx (i := 5) (by omega)
  unfold t__law_road
  walk_at "sx"
  refine g_ixL hr (at_lit 0 rfl e0) (g_lenL hn ?_)
  walk_at "sx"
  rw [List.length_map]
  refine ⟨by omega, g_ixL hr (at_lit 1 rfl e1) (g_lenL hn ?_)⟩
  walk_at "sx"
  rw [List.length_map]
  have o1 := Int.emod_nonneg x0 (show (ys.length : Int) ≠ 0 by omega)
  have o2 := Int.emod_lt_of_pos x0 (show 0 < (ys.length : Int) by omega)
  have p1 := Int.emod_nonneg x1 (show (ys.length : Int) - 1 ≠ 0 by omega)
  have p2 := Int.emod_lt_of_pos x1 (show 0 < (ys.length : Int) - 1 by omega)
  generalize hone : x0 % (ys.length : Int) = one at o1 o2
  generalize hd : x1 % ((ys.length : Int) - 1) = d at p1 p2
  refine ⟨by omega, g_lenL hn ?_⟩
  walk_at "sx"
  rw [List.length_map]
  have q1 := Int.emod_nonneg (one + 1 + d) (show (ys.length : Int) ≠ 0 by omega)
  have q2 := Int.emod_lt_of_pos (one + 1 + d) (show 0 < (ys.length : Int) by omega)
  have hne : (one + 1 + d) % (ys.length : Int) ≠ one := by
    by_cases h : one + 1 + d < (ys.length : Int)
    · rw [Int.emod_eq_of_lt (by omega) h]
      omega
    · have : (one + 1 + d) % (ys.length : Int) = one + 1 + d - ys.length := by
        rw [← Int.sub_emod_right, Int.emod_eq_of_lt (by omega) (by omega)]
      rw [this]
      omega
  generalize hoth : (one + 1 + d) % (ys.length : Int) = other at q1 q2 hne
  refine ⟨by omega, by walk_at "sz", fun l1 H1 n1 k1 f1 => g_ixL (k1 _ _ nin0 hr) (at_lit 4 rfl e4) ?_⟩
  walk_at "sx"
  obtain ⟨v, hv, mv⟩ := mul_at (x := x4) [V.int 2, V.int 5, V.int 60] 3 rfl (by decide)
  obtain ⟨sp, rfl, hsp⟩ : ∃ sp : Int, v = .int sp ∧ (sp = 2 ∨ sp = 5 ∨ sp = 60) := by
    simp only [List.mem_cons, List.not_mem_nil, or_false] at mv
    rcases mv with rfl | rfl | rfl
    · exact ⟨2, rfl, by simp⟩
    · exact ⟨5, rfl, by simp⟩
    · exact ⟨60, rfl, by simp⟩
  have hr1 := k1 _ _ nin0 hr
  refine ⟨by decide, g_ixL f1 hv (g_ixL hr1 (at_lit 2 rfl e2) ?_)⟩
  walk_at "sx"
  refine ⟨by omega, by walk_at "sz", fun l2 H2 n2' k2 f2 => ?_⟩
  have hr2 := k2 _ _ nin0 hr1
  refine g_ixL hr2 (at_lit 5 rfl e5) ?_
  walk_at "sx"
  refine ⟨by decide, g_eq rfl ?_⟩
  walk_at "sx"
  refine g_ixL f2 e2v (g_ixL hr2 (at_lit 3 rfl e3) ?_)
  walk_at "sx"
  refine ⟨by omega, by walk_at "sz", fun l3 H3 n3 k3 f3 => ?_⟩
  have hr3 := k3 _ _ nin0 hr2
  refine g_ixL hr3 (at_lit 5 rfl e5) ?_
  walk_at "sx"
  refine ⟨by decide, g_eq rfl ?_⟩
  walk_at "sx"
  have hn3 := k3 _ _ nin0 (k2 _ _ nin0 (k1 _ _ nin0 hn))
  obtain ⟨a, ha, ga⟩ := at_str (ys := ys) o1 o2
  obtain ⟨b, hb, gb⟩ := at_str (ys := ys) q1 q2
  refine g_ixL f3 e2v (g_ixL hn3 ha (g_ixL hn3 hb ⟨by walk_at "sz", fun p H4 n4 k4 t4 => ?_⟩))
  have m2 := Int.emod_nonneg x2 (show sp ≠ 0 by omega)
  have m2' := Int.emod_lt_of_pos x2 (show 0 < sp by omega)
  have m3 := Int.emod_nonneg x3 (show sp ≠ 0 by omega)
  have m3' := Int.emod_lt_of_pos x3 (show 0 < sp by omega)
  refine q p H4 ⟨a, b, if x5 % 5 = 1 then none else some (1 + x2 % sp), if x5 % 5 = 2 then none else some (1 + x3 % sp)⟩ (k1.trans (k2.trans (k3.trans k4))) ?_ ?_
  · have z1 : (if x5 % 5 = 1 then V.non else V.int (1 + x2 % sp)) = mV (if x5 % 5 = 1 then none else some (1 + x2 % sp)) := by split <;> rfl
    have z2 : (if x5 % 5 = 2 then V.non else V.int (1 + x3 % sp)) = mV (if x5 % 5 = 2 then none else some (1 + x3 % sp)) := by split <;> rfl
    rw [z1, z2] at t4
    exact t4
  · refine ⟨List.mem_of_getElem? ga, List.mem_of_getElem? gb, nodup_ne nd ga gb (by omega), fun i e => ?_, fun i e => ?_, ?_⟩
    · simp only at e
      split at e
      · cases e
      · cases e; omega
    · simp only at e
      split at e
      · cases e
      · cases e; omega
    · simp only
      by_cases h : x5 % 5 = 1
      · right
        rw [if_neg (by omega)]
        simp
      · left
        rw [if_neg h]
        simp
theorem cut_map {α : Type} (f : α → V) (xs : List α) (lo hi : Option Int) : cutV (xs.map f) lo hi = ((xs.drop (HT.sIx xs.length 0 lo)).take (HT.sIx xs.length xs.length hi - HT.sIx xs.length 0 lo)).map f := by
  unfold cutV
  rw [List.length_map, List.map_take, List.map_drop]
theorem cut_nat {α : Type} (f : α → V) (xs : List α) (i j : Nat) : cutV (xs.map f) (some (i : Int)) (some (j : Int)) = ((xs.drop (min i xs.length)).take (min j xs.length - min i xs.length)).map f := by
  rw [cut_map, HT.sIx_nat, HT.sIx_nat]
def spTown (K : PySem.W.Frag) : Sp := fun vs H Q _ => ∃ (a : Addr) (st : Nat) (ns : List Int), vs = [.ref a, .int (st : Nat)] ∧ Scr K H a (ns.map V.int) ∧
  ∀ p H' T, Keep [] H H' → TnAt H' p T → TnOk T → Q (.ref p) H'
theorem rd_town (K : PySem.W.Frag) : ∀ vs H Q E, spTown K vs H Q E → run (t__law_town K spRow (spCell K) spNames spRoad) (L2.start N__law_town vs) H Q := by
  rintro _ H Q _ ⟨a, st, ns, rfl, hS, q⟩
  show run (t__law_town K spRow (spCell K) spNames spRoad) [some (.ref a), some (.int (st : Nat)), none, none, none, none, none, none, none] H Q
  unfold t__law_town
  walk_at "sx"
  refine ⟨a, st, ns, rfl, hS.sq, Int.natCast_nonneg st, fun c => ?_⟩
  walk_at "sx"
  refine ⟨c, 20, rfl, by decide, fun r H1 xs n1 k1 l1 hr => ?_⟩
  obtain ⟨hr, hx⟩ := hr
  obtain ⟨x12, e12, b12, c12⟩ := Row.get hx (i := 12) (by omega)
  obtain ⟨x13, e13, b13, c13⟩ := Row.get hx (i := 13) (by omega)
  obtain ⟨x14, e14, b14, c14⟩ := Row.get hx (i := 14) (by omega)
  obtain ⟨x16, e16, b16, c16⟩ := Row.get hx (i := 16) (by omega)
  obtain ⟨x17, e17, b17, c17⟩ := Row.get hx (i := 17) (by omega)
  walk_at "sx"
  refine g_ixL hr (at_lit 12 rfl e12) ?_
  walk_at "sx"
  refine ⟨by decide, r, (1 + x12 % 10).toNat, xs, ?_, ⟨hr, hx⟩, by omega, by omega, by omega, by omega, fun nm H2 ys n2 k2 hn ly nd ok => ?_⟩
  · rw [Int.toNat_of_nonneg (by omega)]
  walk_at "sx"
  refine ⟨by walk_at "sz", fun rl H3 n3 k3 hrl => ?_⟩
  walk_at "sx"
  have hS3 : Scr K H3 a (ns.map V.int) := hS.keep0 (k1.trans (k2.trans k3))
  refine g_slL hS3.sq fun ms H4 n4 k4 hms => ?_
  have hcut := cut_nat V.int ns (st + 1) (st + 19)
  rw [show ((st + 1 : Nat) : Int) = (st : Int) + 1 by omega, show ((st + 19 : Nat) : Int) = (st : Int) + 19 by omega] at hcut
  rw [hcut] at hms
  have hcl : ((ns.drop (min (st + 1) ns.length)).take (min (st + 19) ns.length - min (st + 1) ns.length)).length ≤ 18 := by
    rw [List.length_take, List.length_drop]
    omega
  generalize ((ns.drop (min (st + 1) ns.length)).take (min (st + 19) ns.length - min (st + 1) ns.length)) = cs at hms hcl
  clear hcut
  refine g_FL (fun i σ H' => ∃ y vs rs, σ = [some (.ref a), some (.int (st : Nat)), some (.ref r), some (.ref nm), some (.ref rl), y, none, none, none] ∧ Keep [rl] H4 H' ∧ H' rl = some (.lst vs) ∧ RdsAt H' vs rs ∧ rs.length ≤ i ∧ ∀ x ∈ rs, RdOk ys x) (lst_sq hms)
    ⟨none, [], [], rfl, Keep.refl _ _, k4 _ _ nin0 hrl, .nil, Nat.le_refl _, fun _ h => (List.not_mem_nil h).elim⟩ ?_ ?_ ?_
  · rintro i σ H' _ ⟨y, vs, rs, rfl, k5, _⟩
    exact lst_sq (k5 _ _ (nin1 (ne_of_none hrl n4).symm) hms)
  · rintro i x σ H5 hi ⟨y, vs, rs, rfl, k5, e5, d5, l5, o5⟩
    obtain ⟨hlt, hxe⟩ := List.getElem?_eq_some_iff.mp hi
    rw [List.getElem_map] at hxe
    have hlt' : i < cs.length := by rwa [List.length_map] at hlt
    subst hxe
    unfold t__law_town_b1
    walk_at "sx"
    have hn4 : H4 nm = some (.lst (ys.map V.str)) := k4 _ _ nin0 (k3 _ _ nin0 hn)
    have hnm : nm ≠ rl := ne_of_none hn n3
    have hn5 := k5 _ _ (nin1 hnm) hn4
    refine g_lenL hn5 ?_
    walk_at "sx"
    rw [List.length_map]
    by_cases h : 1 < (ys.length : Int)
    · rw [if_pos (by simpa using h)]
      walk_at "sx"
      refine ⟨.inl ⟨rfl, _, .inl (.inl e5)⟩, _, 6, rfl, by decide, fun r6 H6 x6 n6 k6 l6 hr6 => ?_⟩
      walk_at "sx"
      refine ⟨r6, nm, x6, ys, rfl, hr6, by omega, k6 _ _ nin0 hn5, by omega, by omega, nd, fun p H7 rd k7 t7 o7 => ?_⟩
      walk_at "sx"
      have kk := k6.trans k7
      have e7 := kk _ _ nin0 e5
      have d7 := d5.keep kk noTup0
      refine g_append e7 (by rw [d7.len]; exact len_lt (by omega)) fun H8 k8 e8 => ?_
      refine ⟨_, vs ++ [.ref p], rs ++ [rd], rfl, k5.trans (kk.all.trans k8), e8, (d7.keep k8 (noTup1 e7)).snoc (t7.keep k8 (noTup1 e7)), by rw [List.length_append]; exact Nat.add_le_add_right l5 1, fun x hx => ?_⟩
      rcases List.mem_append.mp hx with hx | hx
      · exact o5 x hx
      · rw [List.mem_singleton.mp hx]; exact o7
    · rw [if_neg (by simpa using h)]
      exact ⟨_, vs, rs, rfl, k5, e5, d5, Nat.le_succ_of_le l5, o5⟩
  · rintro σ H5 ⟨y, vs, rs, rfl, k5, e5, d5, l5, o5⟩
    rw [List.length_map] at l5
    have kr : Keep [rl] H2 H5 := k3.all.trans (k4.all.trans k5)
    have hr5 := k5 _ _ (nin1 (ne_of_none (k2 _ _ nin0 hr) n3)) (k4 _ _ nin0 (k3 _ _ nin0 (k2 _ _ nin0 hr)))
    have hn5 := kr _ _ (nin1 (ne_of_none hn n3)) hn
    have ky : Keep [] H H5 := (k1.trans k2).past kr (k1.free nin0 (k2.free nin0 n3))
    unfold t__law_town_r1
    walk_at "sx"
    refine g_ixL hr5 (at_lit 14 rfl e14) (g_lenL hn5 ?_)
    walk_at "sx"
    rw [List.length_map]
    refine ⟨by omega, g_addL hn5 hn5 (by rw [List.length_map]; exact len_le (by omega)) fun nn H6 n6 k6 e6 => ?_⟩
    walk_at "sx"
    refine g_ixL (k6 _ _ nin0 hr5) (at_lit 13 rfl e13) ?_
    walk_at "sx"
    refine g_lenL (k6 _ _ nin0 hn5) ?_
    walk_at "sx"
    rw [List.length_map]
    have hm5 : 1 ≤ (if (ys.length : Int) < 5 then (ys.length : Int) else 5) ∧ (if (ys.length : Int) < 5 then (ys.length : Int) else 5) ≤ 5 ∧ (if (ys.length : Int) < 5 then (ys.length : Int) else 5) ≤ ys.length := by split <;> omega
    generalize (if (ys.length : Int) < 5 then (ys.length : Int) else 5) = m5 at hm5
    obtain ⟨m1, m2, m3⟩ := hm5
    have p1 := Int.emod_nonneg x14 (show (ys.length : Int) ≠ 0 by omega)
    have p2 := Int.emod_lt_of_pos x14 (show 0 < (ys.length : Int) by omega)
    have p3 := Int.emod_nonneg x13 (show m5 ≠ 0 by omega)
    have p4 := Int.emod_lt_of_pos x13 (show 0 < m5 by omega)
    obtain ⟨at', hat⟩ : ∃ at' : Nat, x14 % (ys.length : Int) = at' := ⟨_, (Int.toNat_of_nonneg p1).symm⟩
    obtain ⟨k', hk⟩ : ∃ k' : Nat, x13 % m5 = k' := ⟨_, (Int.toNat_of_nonneg p3).symm⟩
    rw [hat, hk, show (at' : Int) + 1 + k' = ((at' + (1 + k') : Nat) : Int) by omega]
    rw [← List.map_append] at e6
    have hcut := cut_nat V.str (ys ++ ys) at' (at' + (1 + k'))
    rw [List.length_append, show min at' (ys.length + ys.length) = at' by omega, show min (at' + (1 + k')) (ys.length + ys.length) - at' = 1 + k' by omega] at hcut
    have hsl : (((ys ++ ys).drop at').take (1 + k')).length = 1 + k' := by rw [List.length_take, List.length_drop, List.length_append]; omega
    have hsn := turned_nodup (a := at') (k := 1 + k') nd (by omega) (by omega)
    have hsm := turned_mem (ys := ys) (a := at') (k := 1 + k')
    refine ⟨by omega, g_slL (lst_sq e6) fun sl H7 n7 k7 e7 => ?_⟩
    rw [hcut] at e7
    generalize ((ys ++ ys).drop at').take (1 + k') = ss at e7 hsl hsn hsm
    have ky7 := k6.trans k7
    have hr7 := ky7 _ _ nin0 hr5
    refine g_ixL hr7 (at_lit 16 rfl e16) ?_
    walk_at "sx"
    refine ⟨by decide, g_ixL hr7 (at_lit 16 rfl e16) ?_⟩
    walk_at "sx"
    refine ⟨by decide, by walk_at "sz", fun l8 H8 n8 k8 e8 => ?_⟩
    refine g_ixL (k8 _ _ nin0 hr7) (at_lit 17 rfl e17) ?_
    walk_at "sx"
    obtain ⟨v, hv, mv⟩ := mul_at (x := x17) [V.int (x16 % 121), V.int (x16 % 13), V.int 120, V.int 0] 4 rfl (by decide)
    obtain ⟨re, rfl, hre⟩ : ∃ re : Int, v = .int re ∧ 0 ≤ re ∧ re ≤ 120 := by
      simp only [List.mem_cons, List.not_mem_nil, or_false] at mv
      rcases mv with rfl | rfl | rfl | rfl
      · exact ⟨_, rfl, by omega, by omega⟩
      · exact ⟨_, rfl, by omega, by omega⟩
      · exact ⟨_, rfl, by omega, by omega⟩
      · exact ⟨_, rfl, by omega, by omega⟩
    have ky8 := ky7.trans k8
    refine ⟨by decide, g_ixL e8 hv (g_tupleL (ky8 _ _ nin0 hn5) fun t1 H9 n9 k9 e9 => g_tupleL (k9 _ _ nin0 (ky8 _ _ nin0 e5)) fun t2 H10 n10 k10 e10 => g_tupleL ((k8.trans (k9.trans k10)) _ _ nin0 e7) fun t3 H11 n11 k11 e11 => ⟨by walk_at "sz", fun p H12 n12 k12 e12 => ?_⟩)⟩
    have kz : Keep [] H5 H12 := ky8.trans (k9.trans (k10.trans (k11.trans k12)))
    refine q p H12 ⟨ys, rs, ss, re⟩ (ky.trans kz) ⟨t1, t2, t3, vs, e12, e9.keep (k10.trans (k11.trans k12)) nin0, e10.keep (k11.trans k12) nin0, d5.keep kz noTup0, e11.keep k12 nin0⟩ ⟨by show 1 ≤ ys.length; omega, by show ys.length ≤ 10; omega, nd, ok, by show rs.length ≤ 18; omega, o5, by show 1 ≤ ss.length; omega, by show ss.length ≤ 5; omega, hsn, hsm, hre.1, hre.2⟩
theorem g_tup {K : PySem.W.Frag} {p : Addr} {xs : List V} {n : Nat} {t : TGs} {σ : L2.St} {H : Hp} {Q : L2.St → Hp → Prop} (h : Tup H p xs) (l : xs.length = n) (q : t xs σ H Q) : gTup K n t (.ref p) σ H Q := ⟨p, xs, rfl, h.sq, l, q⟩
theorem inV_int {i : Int} {zs : List Int} : inV (.int i) (zs.map V.int) = decide (i ∈ zs) := by
  unfold inV
  induction zs with
  | nil => rfl
  | cons a r ih =>
    rw [List.map_cons, List.any_cons, ih]
    by_cases h : a = i
    · subst h
      simp [eqV]
    · have h' : ¬ i = a := fun e => h e.symm
      simp [eqV, h, h']
theorem flat_ints (zs : List Int) : (zs.map V.int).all flatV = true := by
  rw [List.all_map]
  exact List.all_eq_true.mpr fun _ _ => rfl
theorem g_notinT {K : PySem.W.Frag} {p : Addr} {i : Int} {zs : List Int} {H : Hp} {Q : VK} (h : Tup H p (zs.map V.int)) (q : Q (.bl (!decide (i ∈ zs))) H) : uIn K true (.int i) (.ref p) H Q :=
  .inl ⟨p, _, rfl, .inr h.sq, rfl, flat_ints zs, by rw [if_pos rfl, inV_int]; exact q⟩
/-! rows of any kind -/
inductive Rws {α : Type} (f : α → List V) (H : Hp) : List V → List α → Prop
  | nil : Rws f H [] []
  | cons {p : Addr} {r : α} {vs : List V} {rs : List α} : Tup H p (f r) → Rws f H vs rs → Rws f H (.ref p :: vs) (r :: rs)
section
variable {α : Type} {f : α → List V} {H H' : Hp}
theorem Rws.keep {S : List Addr} (k : Keep S H H') (n : NoTup S H) : ∀ {vs : List V} {rs : List α}, Rws f H vs rs → Rws f H' vs rs
  | _, _, .nil => .nil
  | _, _, .cons h q => .cons (h.keep k (n _ _ h)) (Rws.keep k n q)
theorem Rws.len : ∀ {vs : List V} {rs : List α}, Rws f H vs rs → vs.length = rs.length
  | _, _, .nil => rfl
  | _, _, .cons _ q => congrArg (· + 1) q.len
theorem Rws.snoc {p : Addr} {r : α} (h : Tup H p (f r)) : ∀ {vs : List V} {rs : List α}, Rws f H vs rs → Rws f H (vs ++ [.ref p]) (rs ++ [r])
  | _, _, .nil => .cons h .nil
  | _, _, .cons h' q => .cons h' (Rws.snoc h q)
theorem Rws.get : ∀ {vs : List V} {rs : List α} {i : Nat} {r : α}, Rws f H vs rs → rs[i]? = some r → ∃ p, vs[i]? = some (.ref p) ∧ Tup H p (f r)
  | _, _, _, _, .nil, e => by simp at e
  | _, _, 0, _, .cons (p := p) h _, e => by
    simp at e
    subst e
    exact ⟨p, rfl, h⟩
  | _, _, i + 1, _, .cons _ q, e => by
    obtain ⟨p, h1, h2⟩ := Rws.get (i := i) q (by simpa using e)
    exact ⟨p, by simpa using h1, h2⟩
end
/-! ### the steps of a town -/
def pIx : List Str → Str → Nat
  | [], _ => 0
  | y :: ys, z => if y = z then 0 else pIx ys z + 1
theorem pIx_at {z : Str} : ∀ {ys : List Str}, z ∈ ys → ys[pIx ys z]? = some z
  | y :: ys, h => by
    unfold pIx
    by_cases e : y = z
    · rw [if_pos e, e]; rfl
    · rw [if_neg e]
      exact pIx_at ((List.mem_cons.mp h).resolve_left fun q => e q.symm)
theorem pIx_first {z : Str} : ∀ {ys : List Str} {m : Nat}, m < pIx ys z → ys[m]? ≠ some z
  | [], _, h => by simp
  | y :: ys, m, h => by
    unfold pIx at h
    by_cases e : y = z
    · rw [if_pos e] at h; omega
    · rw [if_neg e] at h
      cases m with
      | zero => simpa using e
      | succ m => simpa using pIx_first (ys := ys) (m := m) (by omega)
theorem pIx_lt {z : Str} {ys : List Str} (h : z ∈ ys) : pIx ys z < ys.length := (List.getElem?_eq_some_iff.mp (pIx_at h)).1
structure Stp where
  k : Nat
  a : Nat
  b : Nat
  m : Int
def stV (s : Stp) : List V := [.int (s.k : Nat), .int (s.a : Nat), .int (s.b : Nat), .int s.m]
def thereOf (ys : List Str) (k : Nat) (r : Rd) : List Stp := match r.there with
  | none => []
  | some m => [⟨k, pIx ys r.one, pIx ys r.two, m⟩]
def backOf (ys : List Str) (k : Nat) (r : Rd) : List Stp := match r.back with
  | none => []
  | some m => [⟨k, pIx ys r.two, pIx ys r.one, m⟩]
def stepsAt (T : Tn) (zs : List Int) (k : Nat) : List Stp := match T.roads[k]? with
  | none => []
  | some r => if (k : Int) ∈ zs then [] else thereOf T.places k r ++ backOf T.places k r
def stepsTo (T : Tn) (zs : List Int) (n : Nat) : List Stp := (List.range n).flatMap (stepsAt T zs)
theorem stepsTo_succ (T : Tn) (zs : List Int) (n : Nat) : stepsTo T zs (n + 1) = stepsTo T zs n ++ stepsAt T zs n := by
  unfold stepsTo
  rw [List.range_succ, List.flatMap_append]
  simp
theorem stepsAt_len (T : Tn) (zs : List Int) (k : Nat) : (stepsAt T zs k).length ≤ 2 := by
  unfold stepsAt
  split
  · simp
  · split
    · simp
    · unfold thereOf backOf
      split <;> split <;> simp
theorem stepsTo_len (T : Tn) (zs : List Int) (n : Nat) : (stepsTo T zs n).length ≤ 2 * n := by
  induction n with
  | zero => simp [stepsTo]
  | succ n ih =>
    have := stepsAt_len T zs n
    rw [stepsTo_succ, List.length_append]
    omega
def spSteps : Sp := fun vs H Q _ => ∃ (t sh : Addr) (T : Tn) (zs : List Int), vs = [.ref t, .ref sh] ∧ TnAt H t T ∧ TnOk T ∧ Tup H sh (zs.map V.int) ∧
  ∀ p H' us, H p = none → Keep [] H H' → H' p = some (.lst us) → Rws stV H' us (stepsTo T zs T.roads.length) → Q (.ref p) H'
theorem notN (o : Option Int) : decide (mV o = V.non) = o.isNone := by cases o <;> rfl
theorem steps_half (K : PySem.W.Frag) {D : Ends} {t sh p : Addr} {i : Nat} {o1 o2 : V} {th bk : Option Int} {a b : Nat} {H : Hp} {zs : List Int} {us : List V} {ss : List Stp} (hz : Tup H sh (zs.map V.int)) (hp : H p = some (.lst us)) (w : Rws stV H us ss) (l : ss.length ≤ 100)
    (h : ∀ H' us', Keep [p] H H' → H' p = some (.lst us') → Rws stV H' us' (ss ++ if (i : Int) ∈ zs then [] else match bk with | none => [] | some m => [⟨i, b, a, m⟩]) → D.nx [some (.ref t), some (.ref sh), some (.ref p), some (.int (i : Nat)), some o1, some o2, some (mV th), some (mV bk), some (.int (a : Nat)), some (.int (b : Nat))] H') :
    t__law_steps_r1 K D [some (.ref t), some (.ref sh), some (.ref p), some (.int (i : Nat)), some o1, some o2, some (mV th), some (mV bk), some (.int (a : Nat)), some (.int (b : Nat))] H := by
  unfold t__law_steps_r1
  walk_at "sx"
  refine g_notinT hz ?_
  by_cases hi : (i : Int) ∈ zs
  · rw [decide_eq_true hi]
    walk_at "sx"
    rw [if_pos hi, List.append_nil] at h
    exact h H us (Keep.refl _ _) hp w
  · rw [decide_eq_false hi]
    walk_at "sx"
    rw [if_neg hi] at h
    rw [notN]
    cases bk with
    | none =>
      walk_at "sx"
      rw [List.append_nil] at h
      exact h H us (Keep.refl _ _) hp w
    | some m =>
      walk_at "sx"
      refine ⟨.inl ⟨rfl, _, .inl (.inl hp)⟩, by walk_at "sz", fun x H4 n4 k4 t4 => ?_⟩
      have e4 := k4 _ _ nin0 hp
      refine g_append e4 (by rw [w.len]; exact len_lt (by omega)) fun H5 k5 e5 => ?_
      exact h H5 _ (k4.all.trans k5) e5 (Rws.snoc (r := ⟨i, b, a, m⟩) (t4.keep k5 (noTup1 e4 _ _ t4)) ((w.keep k4 noTup0).keep k5 (noTup1 e4)))
theorem rd_steps (K : PySem.W.Frag) : ∀ vs H Q E, spSteps vs H Q E → run (t__law_steps K) (L2.start N__law_steps vs) H Q := by
  rintro _ H Q _ ⟨t, sh, T, zs, rfl, hT, ok, hz, q⟩
  have hT0 := hT
  obtain ⟨ap, ar, as, rv, g1, g2, g3, g4, g5⟩ := hT
  show run (t__law_steps K) [some (.ref t), some (.ref sh), none, none, none, none, none, none, none, none] H Q
  unfold t__law_steps
  walk_at "sx"
  refine ⟨by walk_at "sz", fun p H1 n1 k1 e1 => ?_⟩
  walk_at "sx"
  refine g_ixT (g1.keep k1 nin0) (at_lit 1 rfl rfl) ?_
  refine g_lenT (g3.keep k1 nin0) ?_
  have hrl := g4.len
  have r18 := ok.r18
  refine g_FR1 (by omega) (by omega) ⟨fun i σ H' => ∃ y3 y4 y5 y6 y7 y8 y9 us, σ = [some (.ref t), some (.ref sh), some (.ref p), y3, y4, y5, y6, y7, y8, y9] ∧ Keep [p] H1 H' ∧ H' p = some (.lst us) ∧ Rws stV H' us (stepsTo T zs i),
    ⟨_, _, _, _, _, _, _, [], rfl, Keep.refl _ _, e1, .nil⟩, ?_, ?_⟩
  · rintro i σ H2 hi ⟨y3, y4, y5, y6, y7, y8, y9, us, rfl, k2, e2, w2⟩
    have hi' : i < T.roads.length := by omega
    obtain ⟨pr, ev, hr⟩ := g4.get (List.getElem?_eq_getElem hi')
    have ro := ok.rd _ (List.getElem_mem hi')
    generalize hrr : T.roads[i] = rd at hr ro
    have hst : stepsAt T zs i = if (i : Int) ∈ zs then [] else thereOf T.places i rd ++ backOf T.places i rd := by
      unfold stepsAt
      rw [List.getElem?_eq_getElem hi', hrr]
    have k12 : Keep [] H H2 := k1.past k2 n1
    have hl := stepsTo_len T zs i
    unfold t__law_steps_b1
    walk_at "sx"
    refine g_ixT (g1.keep k12 nin0) (at_lit 1 rfl rfl) ?_
    refine g_ixT (g3.keep k12 nin0) (at_lit i rfl ev) (g_tup (Tup.keep hr k12 nin0) rfl ?_)
    walk_at "sx"
    refine ⟨_, _, rfl, _, _, rfl, _, _, rfl, _, _, rfl, rfl, g_ixT (g1.keep k12 nin0) (at_lit 0 rfl rfl) ⟨ap, T.places, rfl, g2.keep k12 nin0, rd.one, pIx T.places rd.one, rfl, g2.keep k12 nin0, pIx_at ro.one, fun m => pIx_first,
      g_ixT (g1.keep k12 nin0) (at_lit 0 rfl rfl) ⟨ap, T.places, rfl, g2.keep k12 nin0, rd.two, pIx T.places rd.two, rfl, g2.keep k12 nin0, pIx_at ro.two, fun m => pIx_first, g_notinT (hz.keep k12 nin0) ?_⟩⟩⟩
    walk_at "sx"
    have sh3 : ∀ {H3}, Keep [p] H2 H3 → Tup H3 sh (zs.map V.int) := fun k => (hz.keep k12 nin0).keep k (nin1 (ne_of_none (hz.there.choose_spec) n1))
    by_cases hzi : (i : Int) ∈ zs
    · rw [decide_eq_true hzi]
      walk_at "sx"
      refine steps_half K (hz.keep k12 nin0) e2 w2 (by omega) fun H' us' k' e' w' => ⟨_, _, _, _, _, _, _, us', rfl, k2.trans k', e', ?_⟩
      rw [if_pos hzi] at w' hst
      rw [stepsTo_succ, hst]
      exact w'
    · rw [decide_eq_false hzi]
      walk_at "sx"
      rw [if_neg hzi] at hst
      rw [notN]
      have hb : ∀ ss, ss = stepsTo T zs i ++ thereOf T.places i rd → stepsTo T zs (i + 1) = ss ++ (match rd.back with | none => [] | some m => [⟨i, pIx T.places rd.two, pIx T.places rd.one, m⟩]) := fun ss e => by
        rw [stepsTo_succ, hst, e, List.append_assoc]
        rfl
      unfold thereOf at hb
      cases hth : rd.there with
      | none =>
        walk_at "sx"
        rw [hth] at hb
        refine steps_half (th := none) K (hz.keep k12 nin0) e2 w2 (by omega) fun H' us' k' e' w' => ⟨_, _, _, _, _, _, _, us', rfl, k2.trans k', e', ?_⟩
        rw [if_neg hzi] at w'
        rw [hb _ (List.append_nil _).symm]
        exact w'
      | some m =>
        walk_at "sx"
        rw [hth] at hb
        rw [if_pos (show (!(some m : Option Int).isNone) = true from rfl)]
        refine ⟨.inl ⟨rfl, _, .inl (.inl e2)⟩, by walk_at "sz", fun x H4 n4 k4 t4 => ?_⟩
        have e4 := k4 _ _ nin0 e2
        refine g_append e4 (by rw [w2.len]; exact len_lt (by omega)) fun H5 k5 e5 => ?_
        refine steps_half (th := some m) K (sh3 (k4.all.trans k5)) e5 (Rws.snoc (r := ⟨i, pIx T.places rd.one, pIx T.places rd.two, m⟩) (t4.keep k5 (noTup1 e4 _ _ t4)) ((w2.keep k4 noTup0).keep k5 (noTup1 e4))) (by rw [List.length_append]; simp only [List.length_cons, List.length_nil]; omega)
          fun H' us' k' e' w' => ⟨_, _, _, _, _, _, _, us', rfl, k2.trans ((k4.all.trans k5).trans k'), e', ?_⟩
        rw [if_neg hzi] at w'
        rw [hb _ rfl]
        exact w'
  · rintro σ H2 ⟨y3, y4, y5, y6, y7, y8, y9, us, rfl, k2, e2, w2⟩
    unfold t__law_steps_r2
    walk_at "sx"
    rw [Int.toNat_natCast, hrl] at w2
    exact q p H2 us n1 (k1.past k2 n1) e2 w2

def led (T : Tn) (k : Nat) (z : Str) : Option (Str × Int) := match T.roads[k]? with
  | none => none
  | some r => match (if z = r.one then r.there else none) with
    | some m => some (r.two, m)
    | none => match (if z = r.two then r.back else none) with
      | some m => some (r.one, m)
      | none => none
theorem led_lt {T : Tn} {k : Nat} {z : Str} {w : Str × Int} (h : led T k z = some w) : k < T.roads.length := by
  unfold led at h
  cases e : T.roads[k]? with
  | none => rw [e] at h; cases h
  | some r => exact (List.getElem?_eq_some_iff.mp e).1
theorem dec_strV {a b : Str} : decide (V.str a = V.str b) = decide (a = b) := by
  by_cases h : a = b
  · rw [h, decide_eq_true rfl, decide_eq_true rfl]
  · rw [decide_eq_false h, decide_eq_false fun e => h (by cases e; rfl)]
theorem Keep.pastL {H H1 H2 : Hp} {ps : List Addr} (k1 : Keep [] H H1) (k2 : Keep ps H1 H2) (n : ∀ p ∈ ps, H p = none) : Keep [] H H2 := fun b o _ e =>
  k2 b o (fun hb => by rw [n b hb] at e; cases e) (k1 b o nin0 e)
/-! ### places and steps -/
def plOf (T : Tn) (a : Nat) : Str := T.places.getD a ""
theorem pl_at {T : Tn} {a : Nat} (h : a < T.places.length) : (T.places.map V.str)[a]? = some (.str (plOf T a)) := by
  unfold plOf
  rw [List.getElem?_map, List.getD_eq_getElem?_getD, List.getElem?_eq_getElem h]
  rfl
theorem pl_pIx {T : Tn} {z : Str} (h : z ∈ T.places) : plOf T (pIx T.places z) = z := by
  unfold plOf
  rw [List.getD_eq_getElem?_getD, pIx_at h]
  rfl
/-- what a step says -/
structure StOk (T : Tn) (s : Stp) : Prop where
  k : s.k < T.roads.length
  a : s.a < T.places.length
  b : s.b < T.places.length
  go : led T s.k (plOf T s.a) = some (plOf T s.b, s.m)
theorem stepsAt_ok {T : Tn} {zs : List Int} {k : Nat} (ok : TnOk T) {s : Stp} (h : s ∈ stepsAt T zs k) : StOk T s := by
  unfold stepsAt at h
  cases e : T.roads[k]? with
  | none => rw [e] at h; cases h
  | some r =>
    rw [e] at h
    simp only at h
    split at h
    · cases h
    · have hk := (List.getElem?_eq_some_iff.mp e).1
      have ro := ok.rd _ (List.mem_of_getElem? e)
      rcases List.mem_append.mp h with h | h
      · unfold thereOf at h
        cases ht : r.there with
        | none => rw [ht] at h; cases h
        | some m =>
          rw [ht] at h
          obtain rfl := List.mem_singleton.mp h
          refine ⟨hk, pIx_lt ro.one, pIx_lt ro.two, ?_⟩
          unfold led
          simp only
          rw [pl_pIx ro.one, pl_pIx ro.two, e]
          simp [ht]
      · unfold backOf at h
        cases ht : r.back with
        | none => rw [ht] at h; cases h
        | some m =>
          rw [ht] at h
          obtain rfl := List.mem_singleton.mp h
          refine ⟨hk, pIx_lt ro.two, pIx_lt ro.one, ?_⟩
          unfold led
          simp only
          rw [pl_pIx ro.one, pl_pIx ro.two, e]
          simp [ht, ro.ne.symm]
theorem stepsTo_ok {T : Tn} {zs : List Int} {n : Nat} (ok : TnOk T) {s : Stp} (h : s ∈ stepsTo T zs n) : StOk T s := by
  unfold stepsTo at h
  obtain ⟨k, _, hk⟩ := List.mem_flatMap.mp h
  exact stepsAt_ok ok hk
theorem at_last {xs : List V} {v : V} {n : Nat} (l : xs.length = n) (h0 : 0 < n) (h : xs[n - 1]? = some v) : atI xs (-1) = some v := by
  unfold atI ixN
  rw [if_neg (by decide), if_pos (by omega)]
  show xs[((-1 : Int) + xs.length).toNat]? = _
  rw [show ((-1 : Int) + xs.length).toNat = n - 1 by omega]
  exact h
theorem dp_step {K : PySem.W.Frag} {H : Hp} {s : Stp} {p : Addr} (h : Tup H p (stV s)) : Dp K H (.ref p) (.tuple [.int (s.k : Nat), .int (s.a : Nat), .int (s.b : Nat), .int s.m]) :=
  .tup h.sq (.cons (.int _) (.cons (.int _) (.cons (.int _) (.cons (.int _) .nil))))
theorem dp_steps {K : PySem.W.Frag} {H : Hp} : ∀ {us : List V} {ss : List Stp}, Rws stV H us ss → ∃ ds, DpAll K H us ds ∧ ds.length = ss.length ∧ PyData.canLayAll0 ds = true ∧ PyData.depthAll ds ≤ 2
  | _, _, .nil => ⟨[], .nil, rfl, rfl, by simp [PyData.depthAll]⟩
  | _, _, .cons h q => by
    obtain ⟨ds, h1, h2, h3, h4⟩ := dp_steps (K := K) q
    refine ⟨_ :: ds, .cons (dp_step h) h1, by simp [h2], by simp [PyData.canLayAll0, PyData.canLay0, h3], ?_⟩
    simp [PyData.depthAll, PyData.depth] at *
    omega
theorem ne_nil {K : PySem.W.Frag} {H : Hp} {a b : Addr} {us : List V} {ss : List Stp} {Q : VK} (h : H a = some (.lst us)) (w : Rws stV H us ss) (e : H b = some (.lst [])) (q : Q (.bl (!decide (ss = []))) H) : uEq K true (.ref a) (.ref b) H Q := by
  obtain ⟨ds, h1, h2, h3, h4⟩ := dp_steps (K := K) w
  refine .inr ⟨_, _, .lst (lst_sq h) h1, .lst (lst_sq e) .nil, ?_, by decide +kernel, ?_⟩
  · unfold SeqAt.shaped
    rw [Bool.and_eq_true_iff]
    refine ⟨by simp [PyData.canLay0, h3], decide_eq_true ?_⟩
    simp [PyData.depth]
    omega
  · rw [if_pos rfl]
    cases ss with
    | nil =>
      cases ds with
      | nil => exact q
      | cons _ _ => simp at h2
    | cons s ss =>
      cases ds with
      | nil => simp at h2
      | cons _ _ => exact q
theorem cut_from {xs : List V} (n : Nat) : cutV xs (some (n : Int)) none = xs.drop n := by
  unfold cutV
  rw [HT.sIx_none, HT.sIx_nat, ← List.length_drop, List.take_length]
  by_cases h : n ≤ xs.length
  · rw [Nat.min_eq_left h]
  · rw [Nat.min_eq_right (by omega), List.drop_length, List.drop_eq_nil_of_le (by omega)]
theorem cut_upto {xs : List V} (n : Nat) : cutV xs none (some (n : Int)) = xs.take n := by
  unfold cutV
  rw [HT.sIx_none, HT.sIx_nat, List.drop_zero, Nat.sub_zero]
  by_cases h : n ≤ xs.length
  · rw [Nat.min_eq_left h]
  · rw [Nat.min_eq_right (by omega), List.take_length, List.take_of_length_le (by omega)]
theorem eq_pair {K : PySem.W.Frag} {H : Hp} {p q : Addr} {a b c d : Int} {Q : VK} (h1 : Tup H p [.int a, .int b]) (h2 : Tup H q [.int c, .int d]) (k : Q (.bl (decide (a = c ∧ b = d))) H) : uEq K false (.ref p) (.ref q) H Q := by
  refine .inr ⟨_, _, .tup h1.sq (.cons (.int _) (.cons (.int _) .nil)), .tup h2.sq (.cons (.int _) (.cons (.int _) .nil)), rfl, rfl, ?_⟩
  have e : PyData.eqv (.tuple [.int a, .int b]) (.tuple [.int c, .int d]) = decide (a = c ∧ b = d) := by
    simp only [PyData.eqv, PyData.eqvAll, Bool.and_true]
    by_cases h1 : a = c <;> by_cases h2 : b = d <;> simp [h1, h2]
  rw [if_neg (by decide), e]
  exact k
theorem dp_ints {K : PySem.W.Frag} {H : Hp} : ∀ (is : List Int), ∃ ds, DpAll K H (is.map V.int) ds ∧ ds.length = is.length ∧ PyData.canLayAll0 ds = true ∧ PyData.depthAll ds ≤ 0
  | [] => ⟨[], .nil, rfl, rfl, by simp [PyData.depthAll]⟩
  | i :: is => by
    obtain ⟨ds, h1, h2, h3, h4⟩ := dp_ints is
    refine ⟨_ :: ds, .cons (.int i) h1, by simp [h2], by simp [PyData.canLayAll0, PyData.canLay0, h3], ?_⟩
    simp [PyData.depthAll, PyData.depth] at *
    omega
theorem eq_nil {K : PySem.W.Frag} {H : Hp} {a b : Addr} {is : List Int} {Q : VK} (h : H a = some (.lst (is.map V.int))) (e : H b = some (.lst [])) (q : Q (.bl (decide (is = []))) H) : uEq K false (.ref a) (.ref b) H Q := by
  obtain ⟨ds, h1, h2, h3, h4⟩ := dp_ints (K := K) (H := H) is
  refine .inr ⟨_, _, .lst (lst_sq h) h1, .lst (lst_sq e) .nil, ?_, by decide +kernel, ?_⟩
  · unfold SeqAt.shaped
    rw [Bool.and_eq_true_iff]
    refine ⟨by simp [PyData.canLay0, h3], decide_eq_true ?_⟩
    simp [PyData.depth]
    omega
  · rw [if_neg (by decide)]
    cases is with
    | nil =>
      cases ds with
      | nil => exact q
      | cons _ _ => simp at h2
    | cons s ss =>
      cases ds with
      | nil => simp at h2
      | cons _ _ => exact q
def spShut : Sp := fun vs H Q _ => ∃ (t : Addr) (c : Int) (T : Tn), vs = [.int c, .ref t] ∧ TnAt H t T ∧ TnOk T ∧ ∀ p H' (zs : List Int), Keep [] H H' → Tup H' p (zs.map V.int) → zs.length ≤ 18 → Q (.ref p) H'
theorem rd_shut (K : PySem.W.Frag) : ∀ vs H Q E, spShut vs H Q E → run (t__law_shut K spRow) (L2.start N__law_shut vs) H Q := by
  rintro _ H Q _ ⟨t, c, T, rfl, hT, ok, q⟩
  show run (t__law_shut K spRow) [some (.int c), some (.ref t), none, none, none] H Q
  have r18 := ok.r18
  unfold t__law_shut
  walk_at "sx"
  refine ⟨c, 20, rfl, by decide, fun r H1 xs n1 k1 l1 hr => ?_⟩
  obtain ⟨hr, hx⟩ := hr
  obtain ⟨x18, e18, b18, c18⟩ := Row.get hx (i := 18) (by omega)
  walk_at "sx"
  refine ⟨⟨by decide, by decide, by decide⟩, by walk_at "sz", fun l H2 n2 k2 e2 => g_ixL (k2 _ _ nin0 hr) (at_lit 18 rfl e18) ?_⟩
  walk_at "sx"
  obtain ⟨v, hv, mv⟩ := mul_at (x := x18) [V.int (10 ^ (6 : Int).toNat + 1), V.int 5, V.int 2] 3 rfl (by decide)
  obtain ⟨sh, rfl, hsh⟩ : ∃ sh : Int, v = .int sh ∧ 0 < sh := by
    simp only [List.mem_cons, List.not_mem_nil, or_false] at mv
    rcases mv with rfl | rfl | rfl
    · exact ⟨_, rfl, by decide⟩
    · exact ⟨_, rfl, by decide⟩
    · exact ⟨_, rfl, by decide⟩
  refine ⟨by decide, g_ixL e2 hv ?_⟩
  have hT2 := hT.keep (k1.trans k2) noTup0
  obtain ⟨ap, ar, as, rv, g1, g2, g3, g4, g5⟩ := hT2
  refine g_ixT g1 (at_lit 1 rfl rfl) (g_lenT g3 ?_)
  rw [g4.len]
  have hr2 := k2 _ _ nin0 hr
  refine g_CR1 (S := []) (fun _ h => (List.not_mem_nil h).elim) (by omega) (by omega) ⟨fun i H' acc => ∃ zs : List Int, acc = zs.map V.int ∧ zs.length ≤ i, ?_, ?_, ?_⟩
  · intro D H3 _ _
    exact ⟨[], rfl, Nat.le_refl _⟩
  · rintro D i H3 acc R R0 nD hi k3 eD ⟨zs, rfl, hl⟩ hR hR0
    obtain ⟨xi, ei, bi, ci⟩ := Row.get hx (i := i) (by omega)
    walk_at "sx"
    refine g_ixL (k3 _ _ nin0 hr2) (at_lit i rfl ei) ?_
    walk_at "sx"
    refine ⟨hsh, g_eq rfl ?_⟩
    walk_at "sx"
    split
    · exact hR _ _ (Keep.refl _ _) (by rw [List.length_map]; exact len_lt (by omega)) fun H5 k5 => ⟨zs ++ [(i : Int)], by rw [List.map_append]; rfl, by rw [List.length_append]; exact Nat.add_le_add_right hl 1⟩
    · exact hR0 _ (Keep.refl _ _) ⟨zs, rfl, Nat.le_succ_of_le hl⟩
  · rintro D H3 acc nD k3 eD ⟨zs, rfl, hl⟩
    refine g_tupleL eD fun p H4 n4 k4 t4 => q p H4 zs (k1.trans (k2.trans (k3.trans k4))) t4 (by omega)
/-! ### least minutes -/
inductive Wl (sts : List Stp) (k : Nat) : Nat → Nat → Int → Prop
  | nil (h : Nat) : Wl sts k h h 0
  | one {s : Stp} : s ∈ sts → Wl sts k s.a s.b s.m
  | cons {s : Stp} {g : Nat} {L : Int} : s ∈ sts → s.b < k → Wl sts k s.b g L → Wl sts k s.a g (s.m + L)
theorem Wl.pos {sts : List Stp} (hm : ∀ s ∈ sts, 1 ≤ s.m) {k h g : Nat} {L : Int} (w : Wl sts k h g L) : 0 ≤ L := by
  induction w with
  | nil => omega
  | one hs => have := hm _ hs; omega
  | cons hs _ _ ih => have := hm _ hs; omega
theorem Wl.split {sts : List Stp} (hm : ∀ s ∈ sts, 1 ≤ s.m) {k h g : Nat} {L : Int} (w : Wl sts (k + 1) h g L) : (∃ L', L' ≤ L ∧ Wl sts k h g L') ∨ ∃ A B, A + B ≤ L ∧ Wl sts k h k A ∧ Wl sts k k g B := by
  induction w with
  | nil h => exact .inl ⟨0, Int.le_refl _, .nil h⟩
  | one hs => exact .inl ⟨_, Int.le_refl _, .one hs⟩
  | @cons s g L hs hb w ih =>
    rcases ih with ⟨L', l, w'⟩ | ⟨A, B, l, wa, wb⟩
    · by_cases hk : s.b < k
      · exact .inl ⟨s.m + L', by omega, .cons hs hk w'⟩
      · have e : s.b = k := by omega
        rw [e] at w'
        refine .inr ⟨s.m, L', by omega, ?_, w'⟩
        have := Wl.one (k := k) hs
        rwa [e] at this
    · by_cases hk : s.b < k
      · exact .inr ⟨s.m + A, B, by omega, .cons hs hk wa, wb⟩
      · have e : s.b = k := by omega
        have p := wa.pos hm
        refine .inr ⟨s.m, B, by omega, ?_, wb⟩
        have := Wl.one (k := k) hs
        rwa [e] at this
theorem Wl.app {sts : List Stp} {n h m g : Nat} {A B : Int} (hm : m < n) (w : Wl sts n h m A) : Wl sts n m g B → Wl sts n h g (A + B) := by
  induction w with
  | nil h => intro w2; rw [Int.zero_add]; exact w2
  | one hs => intro w2; exact .cons hs hm w2
  | cons hs hb w ih => intro w2; rw [Int.add_assoc]; exact .cons hs hb (ih hm w2)
abbrev Tab := Nat → Nat → Option Int
def Low (sts : List Stp) (n k : Nat) (D : Tab) : Prop := ∀ h g L, h < n → g < n → Wl sts k h g L → ∃ d, D g h = some d ∧ d ≤ L
def Snd (sts : List Stp) (n : Nat) (D : Tab) : Prop := ∀ g h d, D g h = some d → Wl sts n h g d
def Tle (D D0 : Tab) : Prop := ∀ g h d, D0 g h = some d → ∃ d', D g h = some d' ∧ d' ≤ d
theorem Tle.refl (D : Tab) : Tle D D := fun g h d e => ⟨d, e, Int.le_refl _⟩
theorem Tle.trans {D D1 D2 : Tab} (a : Tle D D1) (b : Tle D1 D2) : Tle D D2 := fun g h d e => by
  obtain ⟨d1, e1, l1⟩ := b g h d e
  obtain ⟨d2, e2, l2⟩ := a g h d1 e1
  exact ⟨d2, e2, Int.le_trans l2 l1⟩
def put (D : Tab) (g h : Nat) (v : Int) : Tab := fun g' h' => if g' = g ∧ h' = h then some v else D g' h'
theorem put_same {D : Tab} {g h : Nat} {v : Int} : put D g h v g h = some v := if_pos ⟨rfl, rfl⟩
theorem put_le {D : Tab} {g h : Nat} {v : Int} (hv : ∀ d, D g h = some d → v ≤ d) : Tle (put D g h v) D := fun g' h' d e => by
  by_cases hq : g' = g ∧ h' = h
  · obtain ⟨rfl, rfl⟩ := hq
    exact ⟨v, put_same, hv d e⟩
  · exact ⟨d, (if_neg hq).trans e, Int.le_refl _⟩
theorem put_snd {sts : List Stp} {n : Nat} {D : Tab} {g h : Nat} {v : Int} (s : Snd sts n D) (w : Wl sts n h g v) : Snd sts n (put D g h v) := fun g' h' d e => by
  by_cases hq : g' = g ∧ h' = h
  · obtain ⟨rfl, rfl⟩ := hq
    rw [put_same] at e
    cases e
    exact w
  · exact s g' h' d (by rwa [put, if_neg hq] at e)
/-- what is reached by the middle m for the pairs told -/
def Mid (D0 : Tab) (m : Nat) (dn : Nat → Nat → Prop) (D : Tab) : Prop := ∀ g h, dn g h → ∀ A B, D0 m h = some A → D0 g m = some B → ∃ d, D g h = some d ∧ d ≤ A + B
theorem Mid.le {D0 D D' : Tab} {m : Nat} {dn : Nat → Nat → Prop} (a : Mid D0 m dn D) (l : Tle D' D) : Mid D0 m dn D' := fun g h q A B ea eb => by
  obtain ⟨d, e, hd⟩ := a g h q A B ea eb
  obtain ⟨d', e', hd'⟩ := l g h d e
  exact ⟨d', e', Int.le_trans hd' hd⟩
theorem low_next {sts : List Stp} {n m : Nat} {D0 D : Tab} (hm : ∀ s ∈ sts, 1 ≤ s.m) (hmn : m < n) (lo : Low sts n m D0) (l : Tle D D0) (md : Mid D0 m (fun g h => g < n ∧ h < n) D) : Low sts n (m + 1) D := fun h g L hh hg w => by
  rcases w.split hm with ⟨L', l', w'⟩ | ⟨A, B, l', wa, wb⟩
  · obtain ⟨d, e, hd⟩ := lo h g L' hh hg w'
    obtain ⟨d', e', hd'⟩ := l g h d e
    exact ⟨d', e', by omega⟩
  · obtain ⟨a, ea, ha⟩ := lo h m A hh hmn wa
    obtain ⟨b, eb, hb⟩ := lo m g B hmn hg wb
    obtain ⟨d, e, hd⟩ := md g h ⟨hg, hh⟩ a b ea eb
    exact ⟨d, e, by omega⟩
/-- what the whole chart says -/
structure Cht (sts : List Stp) (n : Nat) (D : Tab) : Prop where
  d0 : ∀ g, g < n → D g g = some 0
  pos : ∀ g h d, D g h = some d → 0 ≤ d
  step : ∀ g h d, g < n → h < n → h ≠ g → D g h = some d → ∃ s ∈ sts, s.a = h ∧ ∃ e, D g s.b = some e ∧ d = e + s.m
  lo : Low sts n n D
  sn : Snd sts n D
theorem cht_of {sts : List Stp} {n : Nat} {D : Tab} (hm : ∀ s ∈ sts, 1 ≤ s.m) (hb : ∀ s ∈ sts, s.b < n) (lo : Low sts n n D) (sn : Snd sts n D) : Cht sts n D := by
  have pos : ∀ g h d, D g h = some d → 0 ≤ d := fun g h d e => (sn g h d e).pos hm
  have d0 : ∀ g, g < n → D g g = some 0 := fun g hg => by
    obtain ⟨d, e, hd⟩ := lo g g 0 hg hg (.nil g)
    have := pos g g d e
    rw [e, show d = 0 by omega]
  refine ⟨d0, pos, fun g h d hg hh hne e => ?_, lo, sn⟩
  have w := sn g h d e
  cases w with
  | nil => exact absurd rfl hne
  | @one s hs => exact ⟨s, hs, rfl, 0, d0 _ hg, by omega⟩
  | @cons s _ L hs hb' w =>
    obtain ⟨e', he, le⟩ := lo s.b g L hb' hg w
    obtain ⟨d', hd', ld⟩ := lo s.a g (s.m + e') hh hg (.cons hs hb' (sn g s.b e' he))
    rw [e] at hd'
    cases hd'
    exact ⟨s, hs, rfl, e', he, by omega⟩
/-! ### a table of rows -/
def rowV (n : Nat) (f : Nat → Option Int) : List V := (List.range n).map fun h => mV (f h)
theorem rowV_at {n : Nat} {f : Nat → Option Int} {h : Nat} (hh : h < n) : (rowV n f)[h]? = some (mV (f h)) := by
  unfold rowV
  rw [List.getElem?_map, List.getElem?_range hh]
  rfl
theorem rowV_len {n : Nat} {f : Nat → Option Int} : (rowV n f).length = n := by unfold rowV; rw [List.length_map, List.length_range]
theorem rowV_set {n : Nat} {D : Tab} {g h : Nat} {v : Int} (hh : h < n) : (rowV n (D g)).set h (.int v) = rowV n (put D g h v g) := by
  refine List.ext_getElem? fun i => ?_
  by_cases hi : i < n
  · rw [rowV_at hi]
    by_cases e : i = h
    · subst e
      rw [List.getElem?_set_self (by rw [rowV_len]; exact hi), put_same]
      rfl
    · rw [List.getElem?_set_ne (fun z => e z.symm), rowV_at hi]
      unfold put
      rw [if_neg fun z => e z.2]
  · rw [List.getElem?_eq_none (by rw [List.length_set, rowV_len]; omega), List.getElem?_eq_none (by rw [rowV_len]; omega)]
theorem rowV_other {n : Nat} {D : Tab} {g g' h : Nat} {v : Int} (e : g' ≠ g) : rowV n (put D g h v g') = rowV n (D g') := by
  unfold rowV
  refine List.map_congr_left fun i _ => ?_
  unfold put
  rw [if_neg fun z => e z.1]
structure TabAt (H0 H : Hp) (rl : Addr) (m n : Nat) (D : Tab) (ps : List Addr) : Prop where
  l : ps.length = m
  nd : ps.Nodup
  out : rl ∉ ps
  fr : ∀ p ∈ ps, H0 p = none
  lst : H rl = some (.lst (ps.map V.ref))
  row : ∀ g p, ps[g]? = some p → H p = some (.lst (rowV n (D g)))
section
variable {K : PySem.W.Frag} {H0 H : Hp} {rl : Addr} {m n : Nat} {D : Tab} {ps : List Addr} {Q : VK} {g h : Nat}
theorem TabAt.keep {H' : Hp} {S : List Addr} (t : TabAt H0 H rl m n D ps) (k : Keep S H H') (n1 : rl ∉ S) (n2 : ∀ p ∈ ps, p ∉ S) : TabAt H0 H' rl m n D ps :=
  ⟨t.l, t.nd, t.out, t.fr, k _ _ n1 t.lst, fun g p e => k _ _ (n2 p (List.mem_of_getElem? e)) (t.row g p e)⟩
theorem tab_get (t : TabAt H0 H rl m n D ps) (hg : g < m) (hh : h < n) (q : Q (mV (D g h)) H) : uIx K (.ref rl) (.int (g : Nat)) H fun x H1 => uIx K x (.int (h : Nat)) H1 Q := by
  have hg' : g < ps.length := by rw [t.l]; exact hg
  have e := List.getElem?_eq_getElem hg'
  exact g_ixL t.lst (at_lit g rfl (by rw [List.getElem?_map, e]; rfl)) (g_ixL (t.row g _ e) (at_lit h rfl (rowV_at hh)) q)
theorem tab_set {v : Int} {R : Hp → Prop} (t : TabAt H0 H rl m n D ps) (hg : g < m) (hh : h < n) (q : ∀ H', Keep ps H H' → TabAt H0 H' rl m n (put D g h v) ps → R H') : uIx K (.ref rl) (.int (g : Nat)) H fun o H1 => uSetL o (.int (h : Nat)) (.int v) H1 R := by
  have hg' : g < ps.length := by rw [t.l]; exact hg
  have e := List.getElem?_eq_getElem hg'
  have hm := List.getElem_mem hg'
  have hix : ixN (rowV n (D g)).length (h : Int) = some h := by
    unfold ixN
    rw [if_pos (by omega), rowV_len, if_pos (by omega)]
    rfl
  refine g_ixL t.lst (at_lit g rfl (by rw [List.getElem?_map, e]; rfl)) (g_setL (t.row g _ e) hix fun H' k e' => q H' (k.wide fun b hb => by rw [List.mem_singleton.mp hb]; exact hm) ⟨t.l, t.nd, t.out, t.fr, k _ _ (nin1 fun z => t.out (z ▸ hm)) t.lst, fun g' p ep => ?_⟩)
  by_cases eg : g' = g
  · subst eg
    rw [e] at ep
    cases ep
    rw [e', rowV_set hh]
  · have hne : p ≠ ps[g] := fun z => by
      obtain ⟨h1, h2⟩ := List.getElem?_eq_some_iff.mp ep
      exact eg ((List.getElem_inj t.nd).mp (h2.trans z))
    rw [k _ _ (nin1 hne) (t.row g' p ep), rowV_other eg]
end
def ChAt (H : Hp) (c : Addr) (n : Nat) (D : Tab) : Prop := ∃ vs, Tup H c vs ∧ vs.length = n ∧ ∀ g, g < n → ∃ p, vs[g]? = some (.ref p) ∧ Tup H p (rowV n (D g))
theorem ChAt.keep {H H' : Hp} {c : Addr} {n : Nat} {D : Tab} (h : ChAt H c n D) (k : Keep [] H H') : ChAt H' c n D := by
  obtain ⟨vs, h1, h2, h3⟩ := h
  refine ⟨vs, h1.keep k nin0, h2, fun g hg => ?_⟩
  obtain ⟨p, e, t⟩ := h3 g hg
  exact ⟨p, e, t.keep k nin0⟩
theorem ch_get {K : PySem.W.Frag} {H : Hp} {c : Addr} {n g h : Nat} {D : Tab} {Q : VK} (t : ChAt H c n D) (hg : g < n) (hh : h < n) (q : Q (mV (D g h)) H) : uIx K (.ref c) (.int (g : Nat)) H fun x H1 => uIx K x (.int (h : Nat)) H1 Q := by
  obtain ⟨vs, h1, h2, h3⟩ := t
  obtain ⟨p, e, t⟩ := h3 g hg
  exact g_ixT h1 (at_lit g rfl e) (g_ixT t (at_lit h rfl (rowV_at hh)) q)
def spChart : Sp := fun vs H Q _ => ∃ (t sh : Addr) (T : Tn) (zs : List Int), vs = [.ref t, .ref sh] ∧ TnAt H t T ∧ TnOk T ∧ Tup H sh (zs.map V.int) ∧
  ∀ c H' D, Keep [] H H' → ChAt H' c T.places.length D → Cht (stepsTo T zs T.roads.length) T.places.length D → Q (.ref c) H'
def tab0 : Tab := fun g h => if h = g then some 0 else none
theorem steps_pos {T : Tn} {zs : List Int} {n : Nat} (ok : TnOk T) : ∀ s ∈ stepsTo T zs n, 1 ≤ s.m := fun s hs => by
  obtain ⟨k, _, hk⟩ := List.mem_flatMap.mp hs
  unfold stepsAt at hk
  cases e : T.roads[k]? with
  | none => rw [e] at hk; cases hk
  | some r =>
    rw [e] at hk
    have ro := ok.rd _ (List.mem_of_getElem? e)
    simp only at hk
    split at hk
    · cases hk
    · rcases List.mem_append.mp hk with h | h
      · unfold thereOf at h
        cases ht : r.there with
        | none => rw [ht] at h; cases h
        | some m =>
          rw [ht] at h
          rw [List.mem_singleton.mp h]
          exact (ro.there m ht).1
      · unfold backOf at h
        cases ht : r.back with
        | none => rw [ht] at h; cases h
        | some m =>
          rw [ht] at h
          rw [List.mem_singleton.mp h]
          exact (ro.back m ht).1

theorem ch_end (K : PySem.W.Frag) {E : Ends} {t sh rl : Addr} {n : Nat} {y4 y5 y6 y7 y8 y9 y10 y11 : Option V} {H0 H : Hp} {D : Tab} {ps : List Addr} (hn : n ≤ 10) (tb : TabAt H0 H rl n n D ps) (q : ∀ c H', Keep [] H H' → ChAt H' c n D → E.rt (.ref c) H') :
    t__law_chart_r1 K spSteps E [some (.ref t), some (.ref sh), some (.int (n : Nat)), some (.ref rl), y4, y5, y6, y7, y8, y9, y10, y11] H := by
  unfold t__law_chart_r1
  walk_at "sx"
  refine g_CL (S := []) (fun _ h => (List.not_mem_nil h).elim) tb.lst nin0 ⟨fun j H' acc => acc.length = j ∧ ∀ g, g < j → ∃ p, acc[g]? = some (.ref p) ∧ Tup H' p (rowV n (D g)), fun _ _ _ _ => ⟨rfl, fun g hg => by omega⟩, ?_, ?_⟩
  · rintro L j H2 acc R R0 nL hj k2 eL ⟨la, oa⟩ hR hR0
    rw [List.length_map] at hj
    have e := List.getElem?_eq_getElem hj
    have hgd : (ps.map V.ref).getD j .non = .ref ps[j] := by rw [List.getD_eq_getElem?_getD, List.getElem?_map, e]; rfl
    have hrow := k2 _ _ nin0 (tb.row j _ e)
    have hl := tb.l
    show gName 11 ((ps.map V.ref).getD j .non) _ _ _
    rw [hgd]
    walk_at "sx"
    refine g_tupleL hrow fun p H3 n3 k3 t3 => hR _ _ k3 (len_lt (by omega)) fun H5 k5 => ⟨by rw [List.length_append, la]; rfl, fun g hg => ?_⟩
    have eL3 := k3 _ _ nin0 eL
    by_cases h : g < j
    · obtain ⟨p', e', t'⟩ := oa g h
      exact ⟨p', by rw [List.getElem?_append_left (by omega)]; exact e', (t'.keep k3 nin0).keep k5 (nin1 ((t'.keep k3 nin0).neL eL3))⟩
    · have hgj : g = j := by omega
      subst hgj
      exact ⟨p, by rw [List.getElem?_append_right (by omega), la, Nat.sub_self]; rfl, t3.keep k5 (nin1 (t3.neL eL3))⟩
  · rintro L H2 acc nL k2 eL ⟨la, oa⟩
    rw [List.length_map, tb.l] at la oa
    refine g_tupleL eL fun c H3 n3 k3 t3 => q c H3 (k2.trans k3) ⟨acc, t3, la, fun g hg => ?_⟩
    obtain ⟨p, e, t'⟩ := oa g hg
    exact ⟨p, e, t'.keep k3 nin0⟩
theorem mid_put {D0 D : Tab} {sts : List Stp} {m g h n : Nat} {a b : Int} (sn : Snd sts n D) (hm : m < n) (ea : D m h = some a) (eb : D g m = some b) (hv : ∀ d, D g h = some d → a + b ≤ d) : Tle (put D g h (a + b)) D ∧ Snd sts n (put D g h (a + b)) :=
  ⟨put_le hv, put_snd sn (Wl.app hm (sn _ _ _ ea) (sn _ _ _ eb))⟩
theorem ch_three (K : PySem.W.Frag) {E : Ends} {t sh rl : Addr} {n : Nat} {y4 y5 y6 y7 y8 y9 y10 y11 : Option V} {H0 H : Hp} {D : Tab} {ps : List Addr} {sts : List Stp} (hn : n ≤ 10) (hp : ∀ s ∈ sts, 1 ≤ s.m) (hb : ∀ s ∈ sts, s.b < n) (tb : TabAt H0 H rl n n D ps) (lo : Low sts n 0 D) (sn : Snd sts n D)
    (q : ∀ c H' D, Keep ps H H' → ChAt H' c n D → Cht sts n D → E.rt (.ref c) H') :
    t__law_chart_r2 K spSteps E [some (.ref t), some (.ref sh), some (.int (n : Nat)), some (.ref rl), y4, y5, y6, y7, y8, y9, y10, y11] H := by
  unfold t__law_chart_r2
  walk_at "sx"
  refine g_FR1 (by omega) (by omega) ⟨fun m σ H' => ∃ D y4 y5 y9 y10, σ = [some (.ref t), some (.ref sh), some (.int (n : Nat)), some (.ref rl), y4, y5, y6, y7, y8, y9, y10, y11] ∧ Keep ps H H' ∧ TabAt H0 H' rl n n D ps ∧ Low sts n m D ∧ Snd sts n D, ⟨D, _, _, _, _, rfl, Keep.refl _ _, tb, lo, sn⟩, ?_, ?_⟩
  · rintro m σ H1 hm ⟨D1, z4, z5, z9, z10, rfl, k1, tb1, lo1, sn1⟩
    have hm' : m < n := by omega
    unfold t__law_chart_b5
    walk_at "sx"
    refine g_FR1 (by omega) (by omega) ⟨fun g σ H' => ∃ D y4 y5 y10, σ = [some (.ref t), some (.ref sh), some (.int (n : Nat)), some (.ref rl), y4, y5, y6, y7, y8, some (.int (m : Nat)), y10, y11] ∧ Keep ps H H' ∧ TabAt H0 H' rl n n D ps ∧ Tle D D1 ∧ Snd sts n D ∧ Mid D1 m (fun g' h' => g' < g ∧ h' < n) D, ⟨D1, _, _, _, rfl, k1, tb1, Tle.refl _, sn1, fun g h q => by omega⟩, ?_, ?_⟩
    · rintro g σ H2 hg ⟨D2, z4, z5, z10, rfl, k2, tb2, le2, sn2, md2⟩
      have hg' : g < n := by omega
      unfold t__law_chart_b4
      walk_at "sx"
      refine g_FR1 (by omega) (by omega) ⟨fun h σ H' => ∃ D y5 y10, σ = [some (.ref t), some (.ref sh), some (.int (n : Nat)), some (.ref rl), some (.int (g : Nat)), y5, y6, y7, y8, some (.int (m : Nat)), y10, y11] ∧ Keep ps H H' ∧ TabAt H0 H' rl n n D ps ∧ Tle D D1 ∧ Snd sts n D ∧ Mid D1 m (fun g' h' => (g' < g ∧ h' < n) ∨ (g' = g ∧ h' < h)) D,
        ⟨D2, _, _, rfl, k2, tb2, le2, sn2, fun g' h' q => md2 g' h' (by omega)⟩, ?_, ?_⟩
      · rintro h σ H3 hh ⟨D3, z5, z10, rfl, k3, tb3, le3, sn3, md3⟩
        have hh' : h < n := by omega
        have done : ∀ D', Tle D' D3 → (∀ A B, D1 m h = some A → D1 g m = some B → ∃ d, D' g h = some d ∧ d ≤ A + B) → Mid D1 m (fun g' h' => (g' < g ∧ h' < n) ∨ (g' = g ∧ h' < h + 1)) D' := fun D' l last g' h' q A B ea eb => by
          by_cases e : g' = g ∧ h' = h
          · obtain ⟨rfl, rfl⟩ := e
            exact last A B ea eb
          · exact (md3.le l) g' h' (by omega) A B ea eb
        unfold t__law_chart_b3
        walk_at "sx"
        refine tab_get tb3 hm' hh' ?_
        walk_at "sx"
        rw [notN]
        cases ea : D3 m h with
        | none =>
          walk_at "sx"
          refine ⟨D3, _, _, rfl, k3, tb3, le3, sn3, done D3 (Tle.refl _) fun A B eA _ => ?_⟩
          obtain ⟨d, e, _⟩ := le3 m h A eA
          rw [ea] at e
          cases e
        | some a =>
          rw [if_pos (show (!(some a : Option Int).isNone) = true from rfl)]
          refine tab_get tb3 hg' hm' ?_
          walk_at "sx"
          rw [notN]
          cases eb : D3 g m with
          | none =>
            walk_at "sx"
            refine ⟨D3, _, _, rfl, k3, tb3, le3, sn3, done D3 (Tle.refl _) fun A B _ eB => ?_⟩
            obtain ⟨d, e, _⟩ := le3 g m B eB
            rw [eb] at e
            cases e
          | some b =>
            rw [if_pos (show (!(some b : Option Int).isNone) = true from rfl)]
            refine tab_get tb3 hm' hh' ?_
            rw [ea]
            refine tab_get tb3 hg' hm' ?_
            rw [eb]
            have tot : ∀ A B, D1 m h = some A → D1 g m = some B → a + b ≤ A + B := fun A B eA eB => by
              obtain ⟨d, e, l⟩ := le3 m h A eA
              rw [ea] at e
              cases e
              obtain ⟨d, e, l'⟩ := le3 g m B eB
              rw [eb] at e
              cases e
              omega
            have wr : (∀ d, D3 g h = some d → a + b ≤ d) → ∀ z5 z10, uIx K (.ref rl) (.int (g : Nat)) H3 fun o H1 => uSetL o (.int (h : Nat)) (.int (a + b)) H1 fun H' => ∃ D y5 y10, [some (.ref t), some (.ref sh), some (.int (n : Nat)), some (.ref rl), some (.int (g : Nat)), z5, y6, y7, y8, some (.int (m : Nat)), z10, y11] =
                [some (.ref t), some (.ref sh), some (.int (n : Nat)), some (.ref rl), some (.int (g : Nat)), y5, y6, y7, y8, some (.int (m : Nat)), y10, y11] ∧ Keep ps H H' ∧ TabAt H0 H' rl n n D ps ∧ Tle D D1 ∧ Snd sts n D ∧ Mid D1 m (fun g' h' => (g' < g ∧ h' < n) ∨ (g' = g ∧ h' < h + 1)) D := fun hv z5 z10 => by
              obtain ⟨l, s⟩ := mid_put (D0 := D1) sn3 hm' ea eb hv
              exact tab_set tb3 hg' hh' fun H4 k4 tb4 => ⟨_, _, _, rfl, k3.trans k4, tb4, l.trans le3, s, done _ l fun A B eA eB => ⟨_, put_same, tot A B eA eB⟩⟩
            show uAdd K (.int a) (.int b) _ _
            walk_at "sx"
            refine tab_get tb3 hg' hh' ?_
            cases ec : D3 g h with
            | none =>
              walk_at "sx"
              rw [if_pos (show mV none = V.non from rfl)]
              exact wr (fun d e => by rw [ec] at e; cases e) _ _
            | some c =>
              rw [if_neg (show ¬ mV (some c) = V.non from fun e => nomatch e)]
              refine tab_get tb3 hg' hh' ?_
              rw [ec]
              show rI0 _ (.int c) (.int (a + b)) _ _
              walk_at "sx"
              split
              · rename_i hlt
                exact wr (fun d e => by rw [ec] at e; cases e; omega) _ _
              · rename_i hlt
                exact ⟨D3, _, _, rfl, k3, tb3, le3, sn3, done D3 (Tle.refl _) fun A B eA eB => ⟨c, ec, by have := tot A B eA eB; omega⟩⟩
      · rintro σ H3 ⟨D3, z5, z10, rfl, k3, tb3, le3, sn3, md3⟩
        exact ⟨D3, _, _, _, rfl, k3, tb3, le3, sn3, fun g' h' q => md3 g' h' (by omega)⟩
    · rintro σ H2 ⟨D2, z4, z5, z10, rfl, k2, tb2, le2, sn2, md2⟩
      exact ⟨D2, _, _, _, _, rfl, k2, tb2, low_next hp hm' lo1 le2 fun g' h' q => md2 g' h' (by omega), sn2⟩
  · rintro σ H1 ⟨D1, z4, z5, z9, z10, rfl, k1, tb1, lo1, sn1⟩
    rw [Int.toNat_natCast] at lo1
    exact ch_end K hn tb1 fun c H' k' ch => q c H' D1 (k1.trans k'.all) ch (cht_of hp hb lo1 sn1)
theorem rowV_succ {j : Nat} {f : Nat → Option Int} : rowV (j + 1) f = rowV j f ++ [mV (f j)] := by
  unfold rowV
  rw [List.range_succ, List.map_append]
  rfl
theorem tab_more {H0 H H' : Hp} {rl L : Addr} {m n : Nat} {D : Tab} {ps : List Addr} (t : TabAt H0 H rl m n D ps) (k : Keep [rl] H H') (eL : H L = some (.lst (rowV n (D m)))) (fL : H0 L = none) (oL : L ∉ ps) (rL : rl ≠ L) (e : H' rl = some (.lst (ps.map V.ref ++ [.ref L]))) :
    TabAt H0 H' rl (m + 1) n D (ps ++ [L]) := by
  refine ⟨by rw [List.length_append, t.l]; rfl, ?_, ?_, fun p hp => ?_, by rw [List.map_append]; exact e, fun g p ep => ?_⟩
  · rw [List.nodup_append]
    exact ⟨t.nd, by simp, fun a ha b hb z => oL (by rw [← List.mem_singleton.mp hb, ← z]; exact ha)⟩
  · intro h
    rcases List.mem_append.mp h with h | h
    · exact t.out h
    · exact rL (List.mem_singleton.mp h)
  · rcases List.mem_append.mp hp with h | h
    · exact t.fr p h
    · rw [List.mem_singleton.mp h]; exact fL
  · by_cases h : g < ps.length
    · rw [List.getElem?_append_left h] at ep
      exact k _ _ (nin1 fun z => t.out (z ▸ List.mem_of_getElem? ep)) (t.row g p ep)
    · rw [List.getElem?_append_right (by omega)] at ep
      have hg := (List.getElem?_eq_some_iff.mp ep).1
      rw [List.length_singleton] at hg
      have e0 : g - ps.length = 0 := by omega
      rw [e0] at ep
      cases ep
      rw [show g = m by have := t.l; omega]
      exact k _ _ (nin1 (Ne.symm rL)) eL
theorem rd_chart (K : PySem.W.Frag) : ∀ vs H Q E, spChart vs H Q E → run (t__law_chart K spSteps) (L2.start N__law_chart vs) H Q := by
  rintro _ H Q _ ⟨t, sh, T, zs, rfl, hT, ok, hz, q⟩
  have p10 := ok.p10
  have r18 := ok.r18
  have hT0 := hT
  obtain ⟨ap, ar, as, rv, g1, g2, g3, g4, g5⟩ := hT
  show run (t__law_chart K spSteps) [some (.ref t), some (.ref sh), none, none, none, none, none, none, none, none, none, none] H Q
  unfold t__law_chart
  walk_at "sx"
  refine g_ixT g1 (at_lit 0 rfl rfl) (g_lenT g2 ⟨by walk_at "sz", fun rl H1 n1 k1 e1 => ?_⟩)
  rw [List.length_map]
  generalize hnn : T.places.length = n at q p10
  walk_at "sx"
  refine g_FR1 (by omega) (by omega) ⟨fun i σ H' => ∃ y4 y5 ps, σ = [some (.ref t), some (.ref sh), some (.int (n : Nat)), some (.ref rl), y4, y5, none, none, none, none, none, none] ∧ Keep [rl] H1 H' ∧ TabAt H H' rl i n tab0 ps,
    ⟨_, _, [], rfl, Keep.refl _ _, ⟨rfl, by simp, by simp, by simp, e1, by simp⟩⟩, ?_, ?_⟩
  · rintro i σ H2 hi ⟨y4, y5, ps, rfl, k2, tb⟩
    have kz : Keep [] H H2 := k1.past k2 n1
    have hlps := tb.l
    unfold t__law_chart_b1
    walk_at "sx"
    refine ⟨.inl ⟨rfl, _, .inl (.inl tb.lst)⟩, ?_⟩
    refine g_CR1 (S := []) (fun _ h => (List.not_mem_nil h).elim) (by omega) (by omega) ⟨fun j H' acc => acc = rowV j (tab0 i), fun _ _ _ _ => rfl, ?_, ?_⟩
    · rintro L j H3 acc R R0 nL hj k3 eL rfl hR hR0
      walk_at "sx"
      refine ⟨by walk_at "sz", fun l3 H4 n4 k4 e4 => g_eq rfl ?_⟩
      walk_at "sx"
      have hv : atI [V.non, V.int 0] (if j = i then 1 else 0) = some (mV (tab0 i j)) := by
        unfold tab0
        by_cases h : j = i
        · rw [if_pos h, if_pos h]; rfl
        · rw [if_neg h, if_neg h]; rfl
      have hv' : atI [V.non, V.int 0] (if (j : Int) = (i : Int) then 1 else 0) = some (mV (tab0 i j)) := by
        rw [← hv]
        congr 1
        by_cases h : j = i
        · rw [if_pos h, if_pos (by omega)]
        · rw [if_neg h, if_neg (by omega)]
      refine g_ixL e4 hv' (hR _ _ k4 (by rw [rowV_len]; exact len_lt (by omega)) fun H5 k5 => rowV_succ.symm)
    · rintro L H3 acc nL k3 eL rfl
      have e3 := k3 _ _ nin0 tb.lst
      refine g_append e3 (by rw [List.length_map, hlps]; exact len_lt (by omega)) fun H4 k4 e4 => ?_
      rw [Int.toNat_natCast] at eL
      refine ⟨_, _, ps ++ [L], rfl, k2.trans (k3.all.trans k4), tab_more (tb.keep k3 nin0 fun _ _ => nin0) k4 eL (kz.free nin0 nL) (fun hL => ?_) (ne_of_none tb.lst nL) e4⟩
      obtain ⟨g, hg, hgL⟩ := List.getElem_of_mem hL
      have := tb.row g L (by rw [List.getElem?_eq_getElem hg, hgL])
      rw [nL] at this
      cases this
  · rintro σ H2 ⟨y4, y5, ps, rfl, k2, tb⟩
    rw [Int.toNat_natCast] at tb
    have kz : Keep [] H H2 := k1.past k2 n1
    unfold t__law_chart_r3
    walk_at "sx"
    refine ⟨t, sh, T, zs, rfl, hT0.keep kz noTup0, ok, hz.keep kz nin0, fun st H3 us n3 k3 e3 w3 => ?_⟩
    have tb3 := tb.keep k3 nin0 fun _ _ => nin0
    have hpos := steps_pos (zs := zs) (n := T.roads.length) ok
    have hso : ∀ s ∈ stepsTo T zs T.roads.length, s.a < n ∧ s.b < n := fun s hs => by
      have := stepsTo_ok ok hs
      rw [← hnn]
      exact ⟨this.a, this.b⟩
    generalize stepsTo T zs T.roads.length = sts at q w3 hpos hso
    have hst : ∀ p ∈ ps, p ≠ st := fun p hp z => by
      obtain ⟨g, hg, hgL⟩ := List.getElem_of_mem hp
      have := tb.row g p (by rw [List.getElem?_eq_getElem hg, hgL])
      rw [z, n3] at this
      cases this
    have hst' : st ∉ ps := fun h => hst st h rfl
    have ntp : ∀ H', TabAt H H' rl n n tab0 ps ∨ (∃ D, TabAt H H' rl n n D ps) → NoTup ps H' := fun H' h a xs ta ha => by
      obtain ⟨D, tD⟩ : ∃ D, TabAt H H' rl n n D ps := h.elim (fun h => ⟨_, h⟩) id
      obtain ⟨g, hg, hgL⟩ := List.getElem_of_mem ha
      exact ta.neL (tD.row g a (by rw [List.getElem?_eq_getElem hg, hgL])) rfl
    refine g_FL (fun j σ H' => ∃ D y5 y6 y7 y8, σ = [some (.ref t), some (.ref sh), some (.int (n : Nat)), some (.ref rl), y4, y5, y6, y7, y8, none, none, none] ∧ Keep ps H3 H' ∧ TabAt H H' rl n n D ps ∧ Snd sts n D ∧ (∀ g, g < n → ∃ d, D g g = some d ∧ d ≤ 0) ∧ ∀ s ∈ sts.take j, ∃ d, D s.b s.a = some d ∧ d ≤ s.m)
      (lst_sq e3) ⟨tab0, _, _, _, _, rfl, Keep.refl _ _, tb3, fun g h d e => ?_, fun g hg => ⟨0, if_pos rfl, Int.le_refl _⟩, fun s hs => by simp at hs⟩ ?_ ?_ ?_
    · unfold tab0 at e
      split at e
      · rename_i h'
        cases e
        rw [h']
        exact .nil _
      · cases e
    · rintro j σ H' _ ⟨D, _, _, _, _, _, k', _⟩
      exact lst_sq (k' _ _ hst' e3)
    · rintro j x σ H4 hx ⟨D, y5, y6, y7, y8, rfl, k4, tb4, sn, dg, st4⟩
      have hj := (List.getElem?_eq_some_iff.mp hx).1
      have hj' : j < sts.length := by rw [← w3.len]; exact hj
      obtain ⟨p, ev, hp⟩ := w3.get (List.getElem?_eq_getElem hj')
      have hmem := List.getElem_mem hj'
      have htk : sts.take (j + 1) = sts.take j ++ [sts[j]] := by
        rw [List.take_succ, List.getElem?_eq_getElem hj']
        rfl
      generalize sts[j] = s at hp hmem htk
      rw [ev] at hx
      cases hx
      obtain ⟨ha, hb⟩ := hso s hmem
      have hp4 : Tup H4 p (stV s) := hp.keep k4 (ntp H3 (.inl tb3) _ _ hp)
      have next : ∀ D' H', Keep ps H4 H' → TabAt H H' rl n n D' ps → Tle D' D → Snd sts n D' → (∃ d, D' s.b s.a = some d ∧ d ≤ s.m) → ∀ y5 y6 y7 y8, ∃ D z5 z6 z7 z8, [some (V.ref t), some (.ref sh), some (.int (n : Nat)), some (.ref rl), y4, y5, y6, y7, y8, none, none, none] =
          [some (.ref t), some (.ref sh), some (.int (n : Nat)), some (.ref rl), y4, z5, z6, z7, z8, none, none, none] ∧ Keep ps H3 H' ∧ TabAt H H' rl n n D ps ∧ Snd sts n D ∧ (∀ g, g < n → ∃ d, D g g = some d ∧ d ≤ 0) ∧ ∀ s ∈ sts.take (j + 1), ∃ d, D s.b s.a = some d ∧ d ≤ s.m := fun D' H' k' tb' le' sn' hs' y5 y6 y7 y8 => by
        refine ⟨D', _, _, _, _, rfl, k4.trans k', tb', sn', fun g hg => ?_, fun s' hs => ?_⟩
        · obtain ⟨d, e, l⟩ := dg g hg
          obtain ⟨d', e', l'⟩ := le' g g d e
          exact ⟨d', e', by omega⟩
        · rw [htk] at hs
          rcases List.mem_append.mp hs with hs | hs
          · obtain ⟨d, e, l⟩ := st4 s' hs
            obtain ⟨d', e', l'⟩ := le' _ _ d e
            exact ⟨d', e', by omega⟩
          · rw [List.mem_singleton.mp hs]
            exact hs'
      refine g_tup hp4 rfl ?_
      unfold stV
      walk_at "sx"
      refine ⟨_, _, rfl, _, _, rfl, _, _, rfl, _, _, rfl, rfl, ?_⟩
      unfold t__law_chart_b2
      walk_at "sx"
      have wr : (∀ d, D s.b s.a = some d → s.m ≤ d) → ∀ y5 y6 y7 y8, uIx K (.ref rl) (.int (s.b : Nat)) H4 fun o H1 => uSetL o (.int (s.a : Nat)) (.int s.m) H1 fun H' => ∃ D z5 z6 z7 z8, [some (V.ref t), some (.ref sh), some (.int (n : Nat)), some (.ref rl), y4, y5, y6, y7, y8, none, none, none] =
          [some (.ref t), some (.ref sh), some (.int (n : Nat)), some (.ref rl), y4, z5, z6, z7, z8, none, none, none] ∧ Keep ps H3 H' ∧ TabAt H H' rl n n D ps ∧ Snd sts n D ∧ (∀ g, g < n → ∃ d, D g g = some d ∧ d ≤ 0) ∧ ∀ s ∈ sts.take (j + 1), ∃ d, D s.b s.a = some d ∧ d ≤ s.m := fun hv y5 y6 y7 y8 =>
        tab_set tb4 hb ha fun H5 k5 tb5 => next _ H5 k5 tb5 (put_le hv) (put_snd sn (.one hmem)) ⟨_, put_same, Int.le_refl _⟩ _ _ _ _
      refine tab_get tb4 hb ha ?_
      cases ec : D s.b s.a with
      | none =>
        rw [if_pos (show mV none = V.non from rfl)]
        exact wr (fun d e => by rw [ec] at e; cases e) _ _ _ _
      | some c =>
        rw [if_neg (show ¬ mV (some c) = V.non from fun e => nomatch e)]
        refine tab_get tb4 hb ha ?_
        rw [ec]
        show rI0 _ (.int c) (.int s.m) _ _
        walk_at "sx"
        split
        · exact wr (fun d e => by rw [ec] at e; cases e; omega) _ _ _ _
        · exact next D H4 (Keep.refl _ _) tb4 (Tle.refl _) sn ⟨c, ec, by omega⟩ _ _ _ _
    · rintro σ H4 ⟨D, y5, y6, y7, y8, rfl, k4, tb4, sn, dg, st4⟩
      rw [w3.len, List.take_length] at st4
      have lo : Low sts n 0 D := fun h g L hh hg w => by
        cases w with
        | nil => exact dg _ hg
        | one hs => exact st4 _ hs
        | cons hs hb _ => omega
      refine ch_three K p10 hpos (fun s hs => (hso s hs).2) tb4 lo sn fun c H5 D' k5 ch ct => q c H5 D' ((kz.trans k3).pastL (k4.trans k5) tb.fr) ch ct

/-! ### calls and wagons -/
abbrev EI {α β : Type} (R : α → β → Prop) (vs : List α) (rs : List β) : Prop := PySem.W.EachIs R vs rs
theorem ei_snoc {α β : Type} {R : α → β → Prop} {v : α} {r : β} (h : R v r) : ∀ {vs : List α} {rs : List β}, EI R vs rs → EI R (vs ++ [v]) (rs ++ [r])
  | _, _, .nil => .cons h .nil
  | _, _, .cons h' q => .cons h' (ei_snoc h q)
theorem ei_get {α β : Type} {R : α → β → Prop} : ∀ {vs : List α} {rs : List β} {i : Nat} {r : β}, EI R vs rs → rs[i]? = some r → ∃ v, vs[i]? = some v ∧ R v r
  | _, _, _, _, .nil, e => by simp at e
  | _, _, 0, _, .cons (a := p) h _, e => by
    simp at e
    subst e
    exact ⟨p, rfl, h⟩
  | _, _, i + 1, _, .cons _ q, e => by
    obtain ⟨p, h1, h2⟩ := ei_get (i := i) q (by simpa using e)
    exact ⟨p, by simpa using h1, h2⟩
theorem ei_got {α β : Type} {R : α → β → Prop} {vs : List α} {rs : List β} {i : Nat} {v : α} (h : EI R vs rs) (e : vs[i]? = some v) : ∃ r, rs[i]? = some r ∧ R v r := by
  have hi : i < rs.length := by rw [← h.length]; exact (List.getElem?_eq_some_iff.mp e).1
  obtain ⟨v', h1, h2⟩ := ei_get h (List.getElem?_eq_getElem hi)
  rw [e] at h1
  cases h1
  exact ⟨_, List.getElem?_eq_getElem hi, h2⟩
structure Cl where
  n : Str
  p : Str
  g : Int
  s : Int
structure Wn where
  n : Str
  h : Str
  p : Str
  l : Str
  m : Int
  k : Option (Bool × Str)
def clV (c : Cl) : List V := [.str c.n, .str c.p, .int c.g, .int c.s]
def tkV : Option (Bool × Str) → List V
  | none => [.str "free"]
  | some (false, c) => [.str "to", .str c]
  | some (true, c) => [.str "at", .str c]
def ClAt (H : Hp) (x : V) (c : Cl) : Prop := ∃ p, x = .ref p ∧ Tup H p (clV c)
def WnAt (K : PySem.W.Frag) (H : Hp) (x : V) (w : Wn) : Prop := ∃ p tk, x = .ref p ∧ Tup H p [.str w.n, .str w.h, .str w.p, .str w.l, .int w.m, .ref tk] ∧ SqT K H tk (tkV w.k)
def NoT (S : List Addr) (H : Hp) : Prop := ∀ a ∈ S, H a = none ∨ ∃ xs, H a = some (.lst xs)
theorem sqt_keep {K : PySem.W.Frag} {S : List Addr} {H H' : Hp} {a : Addr} {xs : List V} (h : SqT K H a xs) (k : Keep S H H') (n : NoT S H) : SqT K H' a xs := by
  have na : ∀ {o : HO}, H a = some o → (∀ ys, o ≠ .lst ys) → a ∉ S := fun e ne hm => by
    rcases n a hm with z | ⟨ys, z⟩
    · rw [e] at z; cases z
    · rw [e] at z; cases z; exact ne _ rfl
  rcases h with (h | ⟨o, h⟩) | h
  · exact .inl (.inl (k _ _ (na h fun ys z => nomatch z) h))
  · exact .inl (.inr ⟨o, k _ _ (na h fun ys z => nomatch z) h⟩)
  · exact .inr h
theorem noT0 {H : Hp} : NoT [] H := fun _ h => (List.not_mem_nil h).elim
theorem noT1 {H : Hp} {l : Addr} {xs : List V} (h : H l = some (.lst xs)) : NoT [l] H := fun a ha => .inr ⟨xs, by rw [List.mem_singleton.mp ha]; exact h⟩
theorem noTn {H : Hp} {l : Addr} (h : H l = none) : NoT [l] H := fun a ha => .inl (by rw [List.mem_singleton.mp ha]; exact h)
theorem NoT.tup {S : List Addr} {H : Hp} (n : NoT S H) : NoTup S H := fun a xs t ha => by
  rcases n a ha with z | ⟨ys, z⟩
  · obtain ⟨o, e⟩ := t.there
    rw [e] at z; cases z
  · exact t.neL z rfl
theorem ClAt.keep {S : List Addr} {H H' : Hp} {x : V} {c : Cl} (h : ClAt H x c) (k : Keep S H H') (n : NoT S H) : ClAt H' x c := let ⟨p, e, t⟩ := h; ⟨p, e, t.keep k (n.tup _ _ t)⟩
theorem WnAt.keep {K : PySem.W.Frag} {S : List Addr} {H H' : Hp} {x : V} {w : Wn} (h : WnAt K H x w) (k : Keep S H H') (n : NoT S H) : WnAt K H' x w := let ⟨p, tk, e, t, u⟩ := h; ⟨p, tk, e, t.keep k (n.tup _ _ t), sqt_keep u k n⟩
theorem cls_keep {S : List Addr} {H H' : Hp} {vs : List V} {cs : List Cl} (h : EI (ClAt H) vs cs) (k : Keep S H H') (n : NoT S H) : EI (ClAt H') vs cs := h.mono fun _ _ q => q.keep k n
theorem wns_keep {K : PySem.W.Frag} {S : List Addr} {H H' : Hp} {vs : List V} {ws : List Wn} (h : EI (WnAt K H) vs ws) (k : Keep S H H') (n : NoT S H) : EI (WnAt K H') vs ws := h.mono fun _ _ q => q.keep k n
/-! as data -/
def clD (c : Cl) : PyData := .tuple [.str c.n, .str c.p, .int c.g, .int c.s]
def tkD : Option (Bool × Str) → PyData
  | none => .tuple [.str "free"]
  | some (false, c) => .tuple [.str "to", .str c]
  | some (true, c) => .tuple [.str "at", .str c]
def wnD (w : Wn) : PyData := .tuple [.str w.n, .str w.h, .str w.p, .str w.l, .int w.m, tkD w.k]
theorem dp_cl {K : PySem.W.Frag} {H : Hp} {x : V} {c : Cl} (h : ClAt H x c) : Dp K H x (clD c) := by
  obtain ⟨p, rfl, t⟩ := h
  exact .tup t.sq (.cons (.str _) (.cons (.str _) (.cons (.int _) (.cons (.int _) .nil))))
theorem dp_tk {K : PySem.W.Frag} {H : Hp} {tk : Addr} {k : Option (Bool × Str)} (h : SqT K H tk (tkV k)) : Dp K H (.ref tk) (tkD k) := by
  match k, h with
  | none, h => exact .tup h (.cons (.str _) .nil)
  | some (false, c), h => exact .tup h (.cons (.str _) (.cons (.str _) .nil))
  | some (true, c), h => exact .tup h (.cons (.str _) (.cons (.str _) .nil))
theorem dp_wn {K : PySem.W.Frag} {H : Hp} {x : V} {w : Wn} (h : WnAt K H x w) : Dp K H x (wnD w) := by
  obtain ⟨p, tk, rfl, t, u⟩ := h
  exact .tup t.sq (.cons (.str _) (.cons (.str _) (.cons (.str _) (.cons (.str _) (.cons (.int _) (.cons (dp_tk u) .nil))))))
theorem alike_cl (a b : Cl) : PySem.W.alike (clD a) (clD b) = true := by simp [clD, PySem.W.alike, PySem.W.alikeAll]
theorem alike_tk (a b : Option (Bool × Str)) : PySem.W.alike (tkD a) (tkD b) = true := by
  rcases a with _ | ⟨_ | _, a⟩ <;> rcases b with _ | ⟨_ | _, b⟩ <;> simp [tkD, PySem.W.alike, PySem.W.alikeAll]
theorem alike_wn (a b : Wn) : PySem.W.alike (wnD a) (wnD b) = true := by simp [wnD, PySem.W.alike, PySem.W.alikeAll, alike_tk]
theorem depth_cl (c : Cl) : (clD c).depth ≤ 50 := by simp [clD, PyData.depth, PyData.depthAll]
theorem depth_tk (k : Option (Bool × Str)) : (tkD k).depth ≤ 2 := by rcases k with _ | ⟨_ | _, b⟩ <;> simp [tkD, PyData.depth, PyData.depthAll]
theorem depth_wn (c : Wn) : (wnD c).depth ≤ 50 := by
  have := depth_tk c.k
  simp [wnD, PyData.depth, PyData.depthAll]
  omega
abbrev leC : Cl → Cl → Bool := PySem.W.dataLe false clD
abbrev leW : Wn → Wn → Bool := PySem.W.dataLe false wnD
theorem g_sortC {K : PySem.W.Frag} {H : Hp} {a : Addr} {xs : List V} {cs : List Cl} {Q : VK} (h : SqL K H a xs) (e : EI (ClAt H) xs cs) (q : ∀ p H' ys, H p = none → Keep [] H H' → H' p = some (.lst ys) → EI (ClAt H') ys (cs.mergeSort leC) → Q (.ref p) H') : uSorted K [.ref a] H Q :=
  ⟨Cl, ClAt H, clD, a, xs, cs, rfl, h, e, fun _ _ => dp_cl, PySem.W.AllAlike.of alike_cl, PySem.W.Sortable.tuples fun c => ⟨_, _, rfl⟩, fun r _ => depth_cl r, fun ys _ ey p H' n k e' => q p H' ys n k e' (cls_keep ey k noT0)⟩
theorem g_sortW {K : PySem.W.Frag} {H : Hp} {a : Addr} {xs : List V} {ws : List Wn} {Q : VK} (h : SqL K H a xs) (e : EI (WnAt K H) xs ws) (q : ∀ p H' ys, H p = none → Keep [] H H' → H' p = some (.lst ys) → EI (WnAt K H') ys (ws.mergeSort leW) → Q (.ref p) H') : uSorted K [.ref a] H Q :=
  ⟨Wn, WnAt K H, wnD, a, xs, ws, rfl, h, e, fun _ _ => dp_wn, PySem.W.AllAlike.of alike_wn, PySem.W.Sortable.tuples fun c => ⟨_, _, rfl⟩, fun r _ => depth_wn r, fun ys _ ey p H' n k e' => q p H' ys n k e' (wns_keep ey k noT0)⟩
def tkN (w : Wn) : Option Str := w.k.map Prod.snd
structure CsOk (T : Tn) (now : Int) (cs : List Cl) : Prop where
  l : cs.length ≤ 10
  nd : (cs.map Cl.n).Nodup
  nm : ∀ c ∈ cs, NameOk (cl c.n)
  p : ∀ c ∈ cs, c.p ∈ T.places
  g : ∀ c ∈ cs, 1 ≤ c.g ∧ c.g ≤ 5
  s : ∀ c ∈ cs, 0 ≤ c.s ∧ c.s ≤ now
structure WsOk (T : Tn) (now : Int) (cs : List Cl) (ws : List Wn) : Prop where
  l : ws.length ≤ 5
  nd : (ws.map Wn.n).Nodup
  nm : ∀ w ∈ ws, NameOk (cl w.n)
  h : ∀ w ∈ ws, w.h ∈ T.stands
  p : ∀ w ∈ ws, w.p ∈ T.places
  pl : ∀ w ∈ ws, w.l ∈ T.places
  m : ∀ w ∈ ws, 0 ≤ w.m ∧ w.m ≤ 1000200
  t : ∀ w ∈ ws, ∀ c, tkN w = some c → c ∈ cs.map Cl.n
  at' : ∀ w ∈ ws, ∀ c, w.k = some (true, c) → w.m ≤ now ∧ ∃ d ∈ cs, d.n = c ∧ d.p = w.l
  tn : (ws.filterMap tkN).Nodup
theorem CsOk.perm {T : Tn} {now : Int} {cs ds : List Cl} (h : CsOk T now cs) (p : ds.Perm cs) : CsOk T now ds :=
  ⟨by rw [p.length_eq]; exact h.l, (p.map _).nodup_iff.mpr h.nd, fun c hc => h.nm c (p.mem_iff.mp hc), fun c hc => h.p c (p.mem_iff.mp hc), fun c hc => h.g c (p.mem_iff.mp hc), fun c hc => h.s c (p.mem_iff.mp hc)⟩
theorem WsOk.perm {T : Tn} {now : Int} {cs ds : List Cl} {ws us : List Wn} (h : WsOk T now cs ws) (p : us.Perm ws) (q : ds.Perm cs) : WsOk T now ds us :=
  ⟨by rw [p.length_eq]; exact h.l, (p.map _).nodup_iff.mpr h.nd, fun c hc => h.nm c (p.mem_iff.mp hc), fun c hc => h.h c (p.mem_iff.mp hc), fun c hc => h.p c (p.mem_iff.mp hc), fun c hc => h.pl c (p.mem_iff.mp hc), fun c hc => h.m c (p.mem_iff.mp hc),
    fun w hw c hc => (q.map _).mem_iff.mpr (h.t w (p.mem_iff.mp hw) c hc), fun w hw c hc => let ⟨a, d, b, e⟩ := h.at' w (p.mem_iff.mp hw) c hc; ⟨a, d, q.mem_iff.mpr b, e⟩, (p.filterMap _).nodup_iff.mpr h.tn⟩
/-! a list of texts beside the empty one -/
theorem name_ok {y : Str} (h : NameOk (cl y)) : PyData.strOk y = true := by
  have hs := h.2.2.1
  unfold PyData.strOk
  rw [← Array.all_toList, List.all_eq_true]
  intro c hc
  have := hs c hc
  unfold isSg isLt at this
  exact decide_eq_true (by omega)
theorem dp_strs {K : PySem.W.Frag} {H : Hp} : ∀ (is : List Str), (∀ y ∈ is, NameOk (cl y)) → ∃ ds, DpAll K H (is.map V.str) ds ∧ ds.length = is.length ∧ PyData.canLayAll0 ds = true ∧ PyData.depthAll ds ≤ 0
  | [], _ => ⟨[], .nil, rfl, rfl, by simp [PyData.depthAll]⟩
  | i :: is, h => by
    obtain ⟨ds, h1, h2, h3, h4⟩ := dp_strs is fun y hy => h y (List.mem_cons_of_mem _ hy)
    refine ⟨_ :: ds, .cons (.str i) h1, by simp [h2], by simp [PyData.canLayAll0, PyData.canLay0, h3, name_ok (h i List.mem_cons_self)], ?_⟩
    simp [PyData.depthAll, PyData.depth] at *
    omega
theorem eq_nilS {K : PySem.W.Frag} {H : Hp} {a b : Addr} {is : List Str} {Q : VK} (nm : ∀ y ∈ is, NameOk (cl y)) (h : H a = some (.lst (is.map V.str))) (e : H b = some (.lst [])) (q : Q (.bl (decide (is = []))) H) : uEq K false (.ref a) (.ref b) H Q := by
  obtain ⟨ds, h1, h2, h3, h4⟩ := dp_strs (K := K) (H := H) is nm
  refine .inr ⟨_, _, .lst (lst_sq h) h1, .lst (lst_sq e) .nil, ?_, by decide +kernel, ?_⟩
  · unfold SeqAt.shaped
    rw [Bool.and_eq_true_iff]
    refine ⟨by simp [PyData.canLay0, h3], decide_eq_true ?_⟩
    simp [PyData.depth]
    omega
  · rw [if_neg (by decide)]
    cases is with
    | nil =>
      cases ds with
      | nil => exact q
      | cons _ _ => simp at h2
    | cons s ss =>
      cases ds with
      | nil => simp at h2
      | cons _ _ => exact q
theorem map_erase {α β : Type} (f : α → β) : ∀ (l : List α) (j : Nat), (l.map f).eraseIdx j = (l.eraseIdx j).map f
  | [], _ => rfl
  | _ :: _, 0 => rfl
  | a :: l, j + 1 => congrArg (f a :: ·) (map_erase f l j)
/-- a list or a tuple that stands still -/
def Sq (H : Hp) (a : Addr) (xs : List V) : Prop := H a = some (.lst xs) ∨ Tup H a xs
theorem Sq.keep {S : List Addr} {H H' : Hp} {a : Addr} {xs : List V} (h : Sq H a xs) (k : Keep S H H') (n : a ∉ S) : Sq H' a xs := h.elim (fun h => .inl (k _ _ n h)) fun h => .inr (h.keep k n)
theorem Sq.there {H : Hp} {a : Addr} {xs : List V} (h : Sq H a xs) : ∃ o, H a = some o := h.elim (fun h => ⟨_, h⟩) fun h => h.there
/-- a comprehension over a list or tuple of things -/
theorem g_CE {K : PySem.W.Frag} {α : Type} {RR : Hp → V → α → Prop} {g : TG} {tt : TT} {te : TE} {vs : List Nat} {σ : L2.St} {H1 : Hp} {Q : VK} {a : Addr} {xs : List V} {rs : List α} (hx : Sq H1 a xs) (he : EI (RR H1) xs rs)
    (hk : ∀ H H' x r, RR H x r → Keep [] H H' → RR H' x r) (P : Nat → Hp → List V → Prop) (p0 : ∀ D H2, H1 D = none → Keep [] H1 H2 → P 0 H2 [])
    (ps : ∀ D i x r H acc (R : VK) (R0 : Hp → Prop), H1 D = none → rs[i]? = some r → Keep [] H1 H → H D = some (.lst acc) → RR H x r → P i H acc →
      (∀ y H4, Keep [] H H4 → acc.length < sizeLine → (∀ H5, Keep [D] H4 H5 → P (i + 1) H5 (acc ++ [y])) → R y H4) → (∀ H3, Keep [] H H3 → P (i + 1) H3 acc → R0 H3) →
      g x (wipe σ vs) H fun σ2 H2 => wipe σ2 vs = wipe σ vs ∧ tt σ2 H2 fun b H3 => if b = true then te σ2 H3 R else R0 H3)
    (pd : ∀ D H acc, H1 D = none → Keep [] H1 H → H D = some (.lst acc) → P rs.length H acc → Q (.ref D) H) : CU K g tt te vs σ Q (.ref a) H1 := by
  have L : CLoop [] xs.length (fun i => xs.getD i .non) g tt te vs σ H1 Q := by
    refine ⟨P, p0, fun D i H acc R R0 nD hi k e p hR hR0 => ?_, fun D H acc n k e p => pd D H acc n k e (by rw [← he.length]; exact p)⟩
    obtain ⟨r, e1, e2⟩ := ei_got he (List.getElem?_eq_getElem hi)
    have e3 : xs.getD i .non = xs[i] := by rw [List.getD_eq_getElem?_getD, List.getElem?_eq_getElem hi]; rfl
    show g (xs.getD i .non) _ _ _
    rw [e3]
    exact ps D i _ r H acc R R0 nD e1 k e (hk _ _ _ _ e2 k) p hR hR0
  exact hx.elim (fun h => g_CL (S := []) (fun _ h => (List.not_mem_nil h).elim) h nin0 L) fun h => g_CT (S := []) (fun _ h => (List.not_mem_nil h).elim) h nin0 L
/-- a for over a list or tuple of things -/
theorem g_FEs {K : PySem.W.Frag} {α : Type} {RR : Hp → V → α → Prop} {g : TG} {tb : TS} {D : Ends} {σ : L2.St} {H1 : Hp} {a : Addr} {xs : List V} {rs : List α} (S : List Addr) (hx : Sq H1 a xs) (na : a ∉ S) (he : EI (RR H1) xs rs)
    (hk : ∀ H' x r, RR H1 x r → Keep S H1 H' → RR H' x r) (Pv : Nat → L2.St → Hp → Prop) (h0 : Pv 0 σ H1)
    (hs : ∀ i x r σ H, rs[i]? = some r → Keep S H1 H → RR H x r → Pv i σ H → g x σ H fun σ2 H2 => tb { D with nx := fun σ' H' => Keep S H1 H' ∧ Pv (i + 1) σ' H', ct := fun σ' H' => Keep S H1 H' ∧ Pv (i + 1) σ' H', bk := D.nx } σ2 H2)
    (hd : ∀ σ H, Keep S H1 H → Pv rs.length σ H → D.nx σ H) : FU K g tb D σ (.ref a) H1 := by
  have hl := he.length
  have st : ∀ (i : Nat) (x : V) (σ : L2.St) (H : Hp), xs[i]? = some x → (Keep S H1 H ∧ Pv i σ H) → g x σ H fun σ2 H2 => tb { D with nx := fun σ' H' => Keep S H1 H' ∧ Pv (i + 1) σ' H', ct := fun σ' H' => Keep S H1 H' ∧ Pv (i + 1) σ' H', bk := D.nx } σ2 H2 := fun i x σ H ex ⟨k, p⟩ => by
    obtain ⟨r, e1, e2⟩ := ei_got he ex
    exact hs i x r σ H e1 k (hk _ _ _ e2 k) p
  rcases hx with h | h
  · exact g_FL (fun i σ H => Keep S H1 H ∧ Pv i σ H) (lst_sq h) ⟨Keep.refl _ _, h0⟩ (fun i σ H _ p => lst_sq (p.1 _ _ na h)) (fun i x σ H ex p => st i x σ H ex p) fun σ H p => hd σ H p.1 (by rw [← hl]; exact p.2)
  · exact g_FT (fun i σ H => Keep S H1 H ∧ Pv i σ H) h ⟨Keep.refl _ _, h0⟩ (fun i σ H _ p => h.keep p.1 na) (fun i x σ H ex p => st i x σ H ex p) fun σ H p => hd σ H p.1 (by rw [← hl]; exact p.2)
def TaskOk (now : Int) (cs : List Cl) (ys : List Str) (m : Int) (pl : V) (kd : Option (Bool × Str)) (zs : List Str) : Prop :=
  (kd = none ∧ pl = .non ∧ zs = ys) ∨ (∃ j y, ys[j]? = some y ∧ zs = ys.eraseIdx j ∧ ((kd = some (false, y) ∧ pl = .non) ∨ (kd = some (true, y) ∧ m ≤ now ∧ ∃ c ∈ cs, c.n = y ∧ pl = .str c.p)))
def spTask (K : PySem.W.Frag) : Sp := fun vs H Q _ => ∃ (r ca le : Addr) (now : Int) (xs : List Int) (cv : List V) (cs : List Cl) (ys : List Str), vs = [.ref r, .int now, .ref ca, .ref le] ∧ Row H r xs ∧ 6 ≤ xs.length ∧ 0 ≤ now ∧ now ≤ 1000000 ∧
  H ca = some (.lst cv) ∧ EI (ClAt H) cv cs ∧ cs.length ≤ 10 ∧ H le = some (.lst (ys.map V.str)) ∧ ys.length ≤ 10 ∧ (∀ y ∈ ys, NameOk (cl y)) ∧ (∀ y ∈ ys, y ∈ cs.map Cl.n) ∧ ca ≠ le ∧
  ∀ p H' m tk kd pl zs, Keep [le] H H' → H' le = some (.lst (zs.map V.str)) → Tup H' p [pl, .int m, .ref tk] → SqT K H' tk (tkV kd) → 0 ≤ m → m ≤ 1000200 → TaskOk now cs ys m pl kd zs → Q (.ref p) H'
theorem rd_task (K : PySem.W.Frag) : ∀ vs H Q E, spTask K vs H Q E → run (t__law_task K) (L2.start N__law_task vs) H Q := by
  rintro _ H Q _ ⟨r, ca, le, now, xs, cv, cs, ys, rfl, ⟨hr, hx⟩, l6, n0, n1, hca, ecs, lcs, hle, lys, hnm, hys, hne, q⟩
  show run (t__law_task K) [some (.ref r), some (.int now), some (.ref ca), some (.ref le), none, none, none, none, none] H Q
  obtain ⟨x2, e2, b2, c2⟩ := Row.get hx (i := 2) (by omega)
  obtain ⟨x3, e3, b3, c3⟩ := Row.get hx (i := 3) (by omega)
  obtain ⟨x4, e4, b4, c4⟩ := Row.get hx (i := 4) (by omega)
  obtain ⟨x5, e5, b5, c5⟩ := Row.get hx (i := 5) (by omega)
  unfold t__law_task
  walk_at "sx"
  refine g_ixL hr (at_lit 2 rfl e2) ?_
  walk_at "sx"
  refine ⟨by decide, g_ixL hr (at_lit 2 rfl e2) ?_⟩
  walk_at "sx"
  refine ⟨by decide, g_ixL hr (at_lit 2 rfl e2) ?_⟩
  walk_at "sx"
  refine ⟨by decide, g_ixL hr (at_lit 2 rfl e2) ?_⟩
  walk_at "sx"
  refine ⟨by decide, by walk_at "sz", fun l H1 n1' k1 f1 => g_ixL (k1 _ _ nin0 hr) (at_lit 3 rfl e3) ?_⟩
  walk_at "sx"
  obtain ⟨v, hv, mv⟩ := mul_at (x := x3) [V.int 0, V.int (x2 % 9), V.int (x2 % 121), V.int (0 - x2 % 9), V.int (x2 % 3 - 1)] 5 rfl (by decide)
  obtain ⟨d, rfl, hd⟩ : ∃ d : Int, v = .int d ∧ (-10 ≤ d ∧ d ≤ 121) := by
    simp only [List.mem_cons, List.not_mem_nil, or_false] at mv
    rcases mv with rfl | rfl | rfl | rfl | rfl
    · exact ⟨_, rfl, by omega⟩
    · exact ⟨_, rfl, by omega⟩
    · exact ⟨_, rfl, by omega⟩
    · exact ⟨_, rfl, by omega⟩
    · exact ⟨_, rfl, by omega⟩
  refine ⟨by decide, g_ixL f1 hv ?_⟩
  walk_at "sx"
  obtain ⟨m, hm, m0, m1⟩ : ∃ m : Int, (if now + d > 0 then now + d else 0) = m ∧ 0 ≤ m ∧ m ≤ 1000200 := ⟨_, rfl, by split <;> omega, by split <;> omega⟩
  rw [hm]
  have hr1 := k1 _ _ nin0 hr
  have hle1 := k1 _ _ nin0 hle
  refine g_ixL hr1 (at_lit 4 rfl e4) ?_
  walk_at "sx"
  refine ⟨by decide, g_eq rfl ?_⟩
  walk_at "sx"
  have mfree : ∀ H2, Keep [] H1 H2 → [V.str (Str.ofString "free")].length ≤ sizeLine ∧ Mt H2 [V.str (Str.ofString "free")] fun x H1 => [V.non, V.int m, x].length ≤ sizeLine ∧ Mt H1 [V.non, V.int m, x] Q := fun H2 k2 =>
    ⟨by walk_at "sz", fun tk H3 n3 k3 t3 => ⟨by walk_at "sz", fun p H4 n4 k4 t4 => q p H4 m tk none .non ys (k1.trans (k2.trans (k3.trans k4))).all (k4 _ _ nin0 (k3 _ _ nin0 (k2 _ _ nin0 hle1))) t4 (t3.keep k4 nin0).sq m0 m1 (.inl ⟨rfl, rfl, rfl⟩)⟩⟩
  by_cases h0 : x4 % 4 = 0
  · rw [if_pos h0]
    exact mfree H1 (Keep.refl _ _)
  rw [if_neg h0]
  refine ⟨by walk_at "sz", fun l2 H2 n2 k2 f2 => eq_nilS hnm (k2 _ _ nin0 hle1) f2 ⟨_, rfl, ?_⟩⟩
  by_cases hn : ys = []
  · rw [decide_eq_true hn, if_pos rfl]
    exact mfree H2 k2
  rw [decide_eq_false hn, if_neg (by decide)]
  have hl : 0 < ys.length := List.length_pos_iff.mpr hn
  unfold t__law_task_r2
  walk_at "sx"
  have hle2 := k2 _ _ nin0 hle1
  refine ⟨.inl ⟨rfl, _, .inl (.inl hle2)⟩, g_ixL (k2 _ _ nin0 hr1) (at_lit 5 rfl e5) (g_lenL hle2 ?_)⟩
  walk_at "sx"
  rw [List.length_map]
  have j0 := Int.emod_nonneg x5 (show (ys.length : Int) ≠ 0 by omega)
  have j1 := Int.emod_lt_of_pos x5 (show 0 < (ys.length : Int) by omega)
  obtain ⟨j, hj⟩ : ∃ j : Nat, x5 % (ys.length : Int) = j := ⟨_, (Int.toNat_of_nonneg j0).symm⟩
  rw [hj] at j0 j1 ⊢
  have hj' : j < ys.length := by omega
  refine ⟨by omega, g_popAt (k := j) hle2 rfl (by rw [List.length_map]; exact hj') (by rw [List.length_map]; omega) (by rw [List.getElem?_map, List.getElem?_eq_getElem hj']; rfl) fun H3 k3 f3 => ?_⟩
  have hmy := List.getElem_mem hj'
  have hey := List.getElem?_eq_getElem hj'
  generalize ys[j] = y at hmy hey
  rw [map_erase] at f3
  have kk : Keep [le] H H3 := (k1.trans k2).all.trans k3
  have hca3 := kk _ _ (nin1 hne) hca
  have ecs3 := cls_keep ecs kk (noT1 hle)
  walk_at "sx"
  refine g_eq rfl ⟨_, rfl, ?_⟩
  by_cases h1 : x4 % 4 = 1
  · rw [decide_eq_true (by rw [h1]), if_pos rfl]
    have hmem := hys y hmy
    obtain ⟨c0, hc0, hcy⟩ := List.mem_map.mp hmem
    refine g_CE (RR := ClAt) (.inl hca3) ecs3 (fun H H' x r h k => h.keep k noT0) (fun i H' acc => ∃ ds : List Cl, acc = ds.map (fun c => V.str c.p) ∧ ds.length ≤ i ∧ (∀ c ∈ ds, c ∈ cs ∧ c.n = y) ∧ ∀ c, c ∈ cs.take i → c.n = y → ds ≠ []) ?_ ?_ ?_
    · intro D H4 _ _
      exact ⟨[], rfl, Nat.le_refl _, fun _ h => (List.not_mem_nil h).elim, fun c h => by simp at h⟩
    · rintro D i _ c H4 acc R R0 nD hc k4 eD ⟨p, rfl, tp⟩ ⟨ds, rfl, hdl, hds, hdn⟩ hR hR0
      obtain ⟨hi', hce⟩ := List.getElem?_eq_some_iff.mp hc
      have hmc := List.mem_of_getElem? hc
      have htk : cs.take (i + 1) = cs.take i ++ [c] := by rw [List.take_succ, hc]; rfl
      walk_at "sx"
      refine g_ixT tp (at_lit 0 rfl rfl) (g_eq rfl ?_)
      rw [dec_strV]
      walk_at "sx"
      by_cases hc : c.n = y
      · rw [if_pos hc]
        refine g_ixT tp (at_lit 1 rfl rfl) (hR _ _ (Keep.refl _ _) (by rw [List.length_map]; exact len_lt (by omega)) fun H5 k5 => ⟨ds ++ [c], by rw [List.map_append]; rfl, by rw [List.length_append]; exact Nat.add_le_add_right hdl 1, fun d hd => ?_, fun _ _ _ e => by simp at e⟩)
        rcases List.mem_append.mp hd with hd | hd
        · exact hds d hd
        · rw [List.mem_singleton.mp hd]
          exact ⟨hmc, hc⟩
      · rw [if_neg hc]
        refine hR0 _ (Keep.refl _ _) ⟨ds, rfl, by omega, hds, fun d hd hdy => ?_⟩
        rw [htk] at hd
        rcases List.mem_append.mp hd with hd | hd
        · exact hdn d hd hdy
        · rw [List.mem_singleton.mp hd] at hdy
          exact absurd hdy hc
    · rintro D H4 acc nD k4 eD ⟨ds, rfl, hdl, hds, hdn⟩
      rw [List.take_length] at hdn
      obtain ⟨c, ds, rfl⟩ := List.exists_cons_of_ne_nil (hdn c0 hc0 hcy)
      refine g_ixL eD (at_lit 0 rfl rfl) ?_
      obtain ⟨hcm, hcn⟩ := hds c List.mem_cons_self
      refine ⟨by walk_at "sz", fun tk H5 n5 k5 t5 => ⟨by walk_at "sz", fun p H6 n6 k6 t6 => ?_⟩⟩
      have k46 := k4.trans (k5.trans k6)
      have hmn : (if now < m then now else m) ≤ now ∧ 0 ≤ (if now < m then now else m) := by split <;> omega
      exact q p H6 _ tk (some (true, y)) (.str c.p) _ (kk.trans k46.all) (k46 _ _ nin0 f3) t6 (t5.keep k6 nin0).sq hmn.2 (by omega) (.inr ⟨j, y, hey, rfl, .inr ⟨rfl, hmn.1, c, hcm, hcn, rfl⟩⟩)
  · rw [decide_eq_false fun e => h1 (V.int.inj e), if_neg (by decide)]
    unfold t__law_task_r1
    walk_at "sx"
    refine ⟨by walk_at "sz", fun tk H5 n5 k5 t5 => ⟨by walk_at "sz", fun p H6 n6 k6 t6 => ?_⟩⟩
    have k46 := k5.trans k6
    exact q p H6 _ tk (some (false, y)) .non _ (kk.trans k46.all) (k46 _ _ nin0 f3) t6 (t5.keep k6 nin0).sq m0 m1 (.inr ⟨j, y, hey, rfl, .inl ⟨rfl, rfl⟩⟩)

def ScAt (K : PySem.W.Frag) (H : Hp) (p : Addr) (T : Tn) (now : Int) (ws : List Wn) (cs : List Cl) (t wa ca : Addr) (wv cv : List V) : Prop :=
  Tup H p [.ref t, .int now, .ref wa, .ref ca] ∧ TnAt H t T ∧ H wa = some (.lst wv) ∧ EI (WnAt K H) wv ws ∧ H ca = some (.lst cv) ∧ EI (ClAt H) cv cs
structure ScOk (T : Tn) (now : Int) (ws : List Wn) (cs : List Cl) : Prop where
  t : TnOk T
  n0 : 0 ≤ now
  n1 : now ≤ 1000000
  c : CsOk T now cs
  w : WsOk T now cs ws
  sc : ∃ cs0 : List Cl, cs = cs0.mergeSort leC
  sw : ∃ ws0 : List Wn, ws = ws0.mergeSort leW
def spScene (K : PySem.W.Frag) : Sp := fun vs H Q _ => ∃ (a : Addr) (ns : List Int), vs = [.ref a] ∧ Scr K H a (ns.map V.int) ∧
  ∀ p H' T now ws cs t wa ca wv cv, Keep [] H H' → wa ≠ ca → ScAt K H' p T now ws cs t wa ca wv cv → ScOk T now ws cs → Q (.ref p) H'
theorem names_nd {ys : List Str} {x : Int} {n : Nat} (hy : ys.length = 15) (nd : ys.Nodup) (hn : n ≤ 6) : ((List.range n).map fun k => ys.getD ((x + (k : Nat)) % 15).toNat "").Nodup := by
  induction n with
  | zero => exact List.nodup_nil
  | succ n ih =>
    rw [List.range_succ, List.map_append, List.nodup_append]
    refine ⟨ih (by omega), by simp, fun a ha b hb e => ?_⟩
    obtain ⟨i, hi, rfl⟩ := List.mem_map.mp ha
    rw [List.map_singleton, List.mem_singleton] at hb
    rw [hb] at e
    have hi' := List.mem_range.mp hi
    have i1 := Int.emod_nonneg (x + (i : Nat)) (show (15 : Int) ≠ 0 by decide)
    have i2 := Int.emod_lt_of_pos (x + (i : Nat)) (show (0 : Int) < 15 by decide)
    have j1 := Int.emod_nonneg (x + (n : Nat)) (show (15 : Int) ≠ 0 by decide)
    have j2 := Int.emod_lt_of_pos (x + (n : Nat)) (show (0 : Int) < 15 by decide)
    have g1 : ((x + (i : Nat)) % 15).toNat < ys.length := by omega
    have g2 : ((x + (n : Nat)) % 15).toNat < ys.length := by omega
    rw [List.getD_eq_getElem?_getD, List.getD_eq_getElem?_getD, List.getElem?_eq_getElem g1, List.getElem?_eq_getElem g2] at e
    have := (List.getElem_inj nd).mp (show ys[((x + (i : Nat)) % 15).toNat] = ys[((x + (n : Nat)) % 15).toNat] from e)
    omega
theorem g_orP {K : PySem.W.Frag} {H : Hp} {pl : V} {Q : VK} {R : Prop} (C : Str → Prop) (rest : ∀ lp, C lp → Q (.str lp) H) (h : (pl = .non ∧ ((∀ lp, C lp → Q (.str lp) H) → R)) ∨ ∃ z, pl = .str z ∧ C z ∧ 1 ≤ z.length ∧ z.length ≤ sizeLine) :
    ∃ k, TruV K pl H k ∧ if k = true then Q pl H else R := by
  rcases h with ⟨rfl, h⟩ | ⟨z, rfl, c, h1, h2⟩
  · exact ⟨false, rfl, h rest⟩
  · refine ⟨true, ⟨h2, ?_⟩, rest z c⟩
    have : ((z.length : Int) != 0) = true := by simp; omega
    exact this.symm
theorem erase_perm {α : Type} : ∀ {l : List α} {j : Nat} {y : α}, l[j]? = some y → (y :: l.eraseIdx j).Perm l
  | [], _, _, h => by simp at h
  | a :: l, 0, y, h => by
    simp at h
    subst h
    exact .refl _
  | a :: l, j + 1, y, h => (List.Perm.swap a y _).trans ((erase_perm (l := l) (j := j) (by simpa using h)).cons a)
theorem perm_put {A L : List Str} {j : Nat} {y : Str} (h : L[j]? = some y) : (A ++ [y] ++ L.eraseIdx j).Perm (A ++ L) := by
  have p : (y :: L.eraseIdx j).Perm L := erase_perm h
  rw [List.append_assoc]
  exact p.append_left A
theorem rd_scene (K : PySem.W.Frag) : ∀ vs H Q E, spScene K vs H Q E → run (t__law_scene K (spTown K) spRow (spCell K) spNames (spTask K)) (L2.start N__law_scene vs) H Q := by
  rintro _ H Q _ ⟨a, ns, rfl, hS, q⟩
  show run (t__law_scene K (spTown K) spRow (spCell K) spNames (spTask K)) [some (.ref a), none, none, none, none, none, none, none, none, none, none, none, none, none, none, none, none, none] H Q
  unfold t__law_scene
  walk_at "sx"
  refine ⟨a, 0, ns, rfl, hS, fun t H1 T k1 hT ok => ?_⟩
  walk_at "sx"
  refine ⟨a, 20, ns, rfl, (hS.keep0 k1).sq, by decide, fun c => ?_⟩
  walk_at "sx"
  refine ⟨c, 20, rfl, by decide, fun r H2 xs n2 k2 l2 hr => ?_⟩
  obtain ⟨hr, hx⟩ := hr
  obtain ⟨x12, e12, b12, c12⟩ := Row.get hx (i := 12) (by omega)
  obtain ⟨x13, e13, b13, c13⟩ := Row.get hx (i := 13) (by omega)
  obtain ⟨x14, e14, b14, c14⟩ := Row.get hx (i := 14) (by omega)
  obtain ⟨x15, e15, b15, c15⟩ := Row.get hx (i := 15) (by omega)
  obtain ⟨x16, e16, b16, c16⟩ := Row.get hx (i := 16) (by omega)
  obtain ⟨x17, e17, b17, c17⟩ := Row.get hx (i := 17) (by omega)
  walk_at "sx"
  refine ⟨r, 15, xs, rfl, ⟨hr, hx⟩, by omega, by omega, by omega, by omega, fun nm H3 ys n3 k3 hn ly nd yok => ?_⟩
  have hr3 := k3 _ _ nin0 hr
  walk_at "sx"
  refine g_ixL hr3 (at_lit 12 rfl e12) ?_
  walk_at "sx"
  refine ⟨by decide, g_ixL hr3 (at_lit 12 rfl e12) ?_⟩
  walk_at "sx"
  refine ⟨⟨by decide, by decide, by decide⟩, by walk_at "sz", fun l H4 n4 k4 f4 => g_ixL (k4 _ _ nin0 hr3) (at_lit 13 rfl e13) ?_⟩
  walk_at "sx"
  obtain ⟨v, hv, mv⟩ := mul_at (x := x13) [V.int (x12 % 30), V.int x12, V.int 1000000] 3 rfl (by decide)
  obtain ⟨now, rfl, w0, w1⟩ : ∃ d : Int, v = .int d ∧ 0 ≤ d ∧ d ≤ 1000000 := by
    simp only [List.mem_cons, List.not_mem_nil, or_false] at mv
    rcases mv with rfl | rfl | rfl
    · exact ⟨_, rfl, by omega, by omega⟩
    · exact ⟨_, rfl, by omega, by omega⟩
    · exact ⟨_, rfl, by omega, by omega⟩
  refine ⟨by decide, g_ixL f4 hv ?_⟩
  walk_at "sx"
  refine ⟨by walk_at "sz", fun ca H5 n5 k5 f5 => ?_⟩
  walk_at "sx"
  have hr5 := k5 _ _ nin0 (k4 _ _ nin0 hr3)
  have hn5 := k5 _ _ nin0 (k4 _ _ nin0 hn)
  have hT5 := hT.keep (k2.trans (k3.trans (k4.trans k5))) noTup0
  have hS5 := hS.keep0 (k1.trans (k2.trans (k3.trans (k4.trans k5))))
  refine g_ixL hr5 (at_lit 14 rfl e14) ?_
  walk_at "sx"
  have m14 := Int.emod_nonneg x14 (show (11 : Int) ≠ 0 by decide)
  have m14' := Int.emod_lt_of_pos x14 (show (0 : Int) < 11 by decide)
  have nca5 : ∀ {o b}, H4 b = some o → b ≠ ca := fun e => ne_of_none e n5
  refine ⟨by decide, g_FR1 (by omega) (by omega) ⟨fun i σ H' => ∃ y6 y7 y8 y9 vs cs, σ = [some (.ref a), some (.ref t), some (.ref r), some (.ref nm), some (.int now), some (.ref ca), y6, y7, y8, y9, none, none, none, none, none, none, none, none] ∧ Keep [ca] H5 H' ∧ H' ca = some (.lst vs) ∧ EI (ClAt H') vs cs ∧
      cs.map Cl.n = ys.take i ∧ (∀ c ∈ cs, c.p ∈ T.places ∧ (1 ≤ c.g ∧ c.g ≤ 5) ∧ 0 ≤ c.s ∧ c.s ≤ now), ⟨_, _, _, _, [], [], rfl, Keep.refl _ _, f5, .nil, rfl, fun _ h => (List.not_mem_nil h).elim⟩, ?_, ?_⟩⟩
  · rintro i σ H6 hi ⟨y6, y7, y8, y9, vs, cs, rfl, k6, e6, w6, hcn, hcp⟩
    have hr6 := k6 _ _ (nin1 (nca5 (k4 _ _ nin0 hr3))) hr5
    have hn6 := k6 _ _ (nin1 (nca5 (k4 _ _ nin0 hn))) hn5
    have hT6 := hT5.keep k6 (noTup1 f5)
    have hS6 := (hS.keep0 (k1.trans (k2.trans (k3.trans k4)))).past n5 k5 k6
    have lcs : cs.length = i := by
      have := congrArg List.length hcn
      rw [List.length_map, List.length_take, ly] at this
      omega
    unfold t__law_scene_b1
    walk_at "sx"
    refine ⟨a, 26 + (i : Int), ns, rfl, hS6.sq, by omega, fun c => ?_⟩
    walk_at "sx"
    refine ⟨c, 6, rfl, by decide, fun rs H7 zs n7 k7 l7 hz => ?_⟩
    obtain ⟨hz, hzx⟩ := hz
    obtain ⟨z0, ez0, bz0, cz0⟩ := Row.get hzx (i := 0) (by omega)
    obtain ⟨z1, ez1, bz1, cz1⟩ := Row.get hzx (i := 1) (by omega)
    obtain ⟨z2, ez2, bz2, cz2⟩ := Row.get hzx (i := 2) (by omega)
    obtain ⟨z3, ez3, bz3, cz3⟩ := Row.get hzx (i := 3) (by omega)
    have hr7 := k7 _ _ nin0 hr6
    walk_at "sx"
    refine g_ixL hz (at_lit 1 rfl ez1) ?_
    walk_at "sx"
    refine ⟨by walk_at "sz", fun l8 H8 n8 k8 f8 => g_ixL (k8 _ _ nin0 hr7) (at_lit 15 rfl e15) ?_⟩
    walk_at "sx"
    obtain ⟨v, hv, mv⟩ := mul_at (x := x15) [V.int 5, V.int 2, V.int 1] 3 rfl (by decide)
    obtain ⟨d, rfl, d0⟩ : ∃ d : Int, v = .int d ∧ (d = 5 ∨ d = 2 ∨ d = 1) := by
      simp only [List.mem_cons, List.not_mem_nil, or_false] at mv
      rcases mv with rfl | rfl | rfl
      · exact ⟨_, rfl, by omega⟩
      · exact ⟨_, rfl, by omega⟩
      · exact ⟨_, rfl, by omega⟩
    refine ⟨by decide, g_ixL f8 hv ?_⟩
    walk_at "sx"
    have g0 := Int.emod_nonneg z1 (show d ≠ 0 by omega)
    have g1' := Int.emod_lt_of_pos z1 (show 0 < d by omega)
    have gg : 1 ≤ 1 + z1 % d ∧ 1 + z1 % d ≤ 5 := by omega
    generalize 1 + z1 % d = grade at gg
    have hz8 := k8 _ _ nin0 hz
    refine ⟨by omega, g_ixL hz8 (at_lit 2 rfl ez2) ?_⟩
    walk_at "sx"
    refine ⟨by decide, g_ixL hz8 (at_lit 2 rfl ez2) ?_⟩
    walk_at "sx"
    refine ⟨by omega, by walk_at "sz", fun l9 H9 n9 k9 f9 => g_ixL (k9 _ _ nin0 hz8) (at_lit 3 rfl ez3) ?_⟩
    walk_at "sx"
    have s0 := Int.emod_nonneg z2 (show now + 1 ≠ 0 by omega)
    have s1 := Int.emod_lt_of_pos z2 (show 0 < now + 1 by omega)
    obtain ⟨u, hu, mu⟩ := mul_at (x := z3) [V.int (if now - z2 % 3 > 0 then now - z2 % 3 else 0), V.int (z2 % (now + 1)), V.int now] 3 rfl (by decide)
    obtain ⟨since, rfl, d1⟩ : ∃ d : Int, u = .int d ∧ 0 ≤ d ∧ d ≤ now := by
      simp only [List.mem_cons, List.not_mem_nil, or_false] at mu
      rcases mu with rfl | rfl | rfl
      · exact ⟨_, rfl, by split <;> omega, by split <;> omega⟩
      · exact ⟨_, rfl, by omega, by omega⟩
      · exact ⟨_, rfl, by omega, by omega⟩
    refine ⟨by decide, g_ixL f9 hu ?_⟩
    walk_at "sx"
    have k69 : Keep [] H6 H9 := k7.trans (k8.trans k9)
    have hT9 := hT6.keep k69 noTup0
    have hT9' := hT9
    obtain ⟨ap, ar, as, rv, g1, g2, g3, g4, g5⟩ := hT9'
    have e9 := k69 _ _ nin0 e6
    have hin : i < ys.length := by omega
    refine ⟨.inl ⟨rfl, _, .inl (.inl e9)⟩, g_ixL (k69 _ _ nin0 hn6) (at_lit i rfl (by rw [List.getElem?_map, List.getElem?_eq_getElem hin]; rfl)) (g_ixT g1 (at_lit 0 rfl rfl) (g_ixL (k9 _ _ nin0 hz8) (at_lit 0 rfl ez0) (g_ixT g1 (at_lit 0 rfl rfl) (g_lenT g2 ?_))))⟩
    walk_at "sx"
    rw [List.length_map]
    have p1 := ok.p1
    have o1 := Int.emod_nonneg z0 (show (T.places.length : Int) ≠ 0 by omega)
    have o2 := Int.emod_lt_of_pos z0 (show 0 < (T.places.length : Int) by omega)
    obtain ⟨pl, hpl, gpl⟩ := at_str (ys := T.places) o1 o2
    refine ⟨by omega, g_ixT g2 hpl ⟨by walk_at "sz", fun p H10 n10 k10 t10 => ?_⟩⟩
    have e10 := k10 _ _ nin0 e9
    refine g_append e10 (by rw [w6.length, lcs]; exact len_lt (by omega)) fun H11 k11 e11 => ?_
    refine ⟨_, _, _, _, _, cs ++ [⟨ys[i], pl, grade, since⟩], rfl, k6.trans ((k69.trans k10).all.trans k11), e11, ei_snoc ⟨p, rfl, t10.keep k11 (noTup1 e10 _ _ t10)⟩ (cls_keep (cls_keep w6 (k69.trans k10) noT0) k11 (noT1 e10)), ?_, fun c hc => ?_⟩
    · rw [List.map_append, hcn, List.take_succ, List.getElem?_eq_getElem hin]
      rfl
    · rcases List.mem_append.mp hc with hc | hc
      · exact hcp c hc
      · rw [List.mem_singleton.mp hc]
        exact ⟨List.mem_of_getElem? gpl, gg, d1⟩
  · rintro σ H6 ⟨y6, y7, y8, y9, vs, cs, rfl, k6, e6, w6, hcn, hcp⟩
    have hr6 := k6 _ _ (nin1 (nca5 (k4 _ _ nin0 hr3))) hr5
    have hn6 := k6 _ _ (nin1 (nca5 (k4 _ _ nin0 hn))) hn5
    have hT6 := hT5.keep k6 (noTup1 f5)
    have hS6 := (hS.keep0 (k1.trans (k2.trans (k3.trans k4)))).past n5 k5 k6
    have k06 : Keep [] H H6 := (k1.trans (k2.trans (k3.trans (k4.trans k5)))).past k6 ((k1.trans (k2.trans (k3.trans k4))).free nin0 n5)
    have csok : CsOk T now cs := by
      have l : cs.length ≤ 10 := by
        have := congrArg List.length hcn
        rw [List.length_map, List.length_take] at this
        omega
      have nd' : (cs.map Cl.n).Nodup := by rw [hcn]; exact nd.sublist (List.take_sublist _ _)
      exact ⟨l, nd', fun c hc => yok _ (List.mem_of_mem_take (hcn ▸ List.mem_map.mpr ⟨c, hc, rfl⟩)), fun c hc => (hcp c hc).1, fun c hc => (hcp c hc).2.1, fun c hc => (hcp c hc).2.2⟩
    clear hcn hcp
    unfold t__law_scene_r2
    walk_at "sx"
    refine g_CE (RR := ClAt) (.inl e6) w6 (fun H H' x r h k => h.keep k noT0) (fun i H' acc => acc = ((cs.map Cl.n).take i).map V.str) (fun _ _ _ _ => rfl) ?_ ?_
    · rintro D i _ c H7 acc R R0 nD hc k7 eD ⟨p, rfl, tp⟩ rfl hR _
      walk_at "sx"
      refine g_ixT tp (at_lit 0 rfl rfl) (hR _ _ (Keep.refl _ _) (by rw [List.length_map, List.length_take, List.length_map]; have := csok.l; exact len_lt (by omega)) fun H5 k5 => ?_)
      rw [List.take_succ, List.getElem?_map, hc, List.map_append]
      rfl
    rintro le H7 acc nle k7 e7 rfl
    rw [List.take_of_length_le (by rw [List.length_map]; exact Nat.le_refl _)] at e7
    walk_at "sx"
    refine ⟨by walk_at "sz", fun wa H8 n8 k8 f8 => ?_⟩
    walk_at "sx"
    refine g_ixL ((k7.trans k8) _ _ nin0 hr6) (at_lit 16 rfl e16) ?_
    walk_at "sx"
    have m16 := Int.emod_nonneg x16 (show (6 : Int) ≠ 0 by decide)
    have m16' := Int.emod_lt_of_pos x16 (show (0 : Int) < 6 by decide)
    refine ⟨by decide, g_FR1 (by omega) (by omega) ⟨fun i σ H' => ∃ y6 y7 y12 y13 y14 y15 y16 vw ws left, σ = [some (.ref a), some (.ref t), some (.ref r), some (.ref nm), some (.int now), some (.ref ca), y6, y7, y8, y9, some (.ref le), some (.ref wa), y12, y13, y14, y15, y16, none] ∧ Keep [le, wa] H8 H' ∧ H' wa = some (.lst vw) ∧ EI (WnAt K H') vw ws ∧
      H' le = some (.lst (left.map V.str)) ∧ ws.map Wn.n = ((List.range i).map fun k => ys.getD ((x17 + (k : Nat)) % 15).toNat "") ∧ (ws.filterMap tkN ++ left).Perm (cs.map Cl.n) ∧
      (∀ w ∈ ws, w.h ∈ T.stands ∧ w.p ∈ T.places ∧ w.l ∈ T.places ∧ (0 ≤ w.m ∧ w.m ≤ 1000200) ∧ ∀ c, w.k = some (true, c) → w.m ≤ now ∧ ∃ d ∈ cs, d.n = c ∧ d.p = w.l), ⟨_, _, _, _, _, _, _, [], [], cs.map Cl.n, rfl, Keep.refl _ _, f8, .nil, k8 _ _ nin0 e7, rfl, List.Perm.refl _, fun _ h => (List.not_mem_nil h).elim⟩, ?_, ?_⟩⟩
    · rintro i σ H9 hi ⟨y6', y7', y12, y13, y14, y15, y16, vw, ws, left, rfl, k9, ew, ww, el, hwn, hperm, hwp⟩
      have k69 : Keep [] H6 H9 := (k7.trans k8).pastL k9 fun p hp => by
        rcases List.mem_cons.mp hp with rfl | hp
        · exact nle
        · rw [List.mem_singleton.mp hp]
          exact k7.free nin0 n8
      have hr9 := k69 _ _ nin0 hr6
      have hn9 := k69 _ _ nin0 hn6
      have hT9 := hT6.keep k69 noTup0
      have hS9 := hS6.keep0 k69
      have e9 := k69 _ _ nin0 e6
      have w9 := cls_keep w6 k69 noT0
      have lws : ws.length = i := by
        have := congrArg List.length hwn
        rwa [List.length_map, List.length_map, List.length_range] at this
      have lleft : left.length ≤ 10 := by
        have h1 := hperm.length_eq
        rw [List.length_append, List.length_map] at h1
        have := csok.l
        omega
      have hmleft : ∀ y ∈ left, y ∈ cs.map Cl.n := fun y hy => hperm.mem_iff.mp (List.mem_append_right _ hy)
      have hnleft : ∀ y ∈ left, NameOk (cl y) := fun y hy => by
        obtain ⟨c, hc, rfl⟩ := List.mem_map.mp (hmleft y hy)
        exact csok.nm c hc
      have nwl : wa ≠ le := (ne_of_none e7 n8).symm
      unfold t__law_scene_b2
      walk_at "sx"
      refine ⟨a, 21 + (i : Int), ns, rfl, hS9.sq, by omega, fun c => ?_⟩
      walk_at "sx"
      refine ⟨c, 10, rfl, by decide, fun rs HA zs nA kA lA hz => ?_⟩
      obtain ⟨hz, hzx⟩ := hz
      obtain ⟨z0, ez0, bz0, cz0⟩ := Row.get hzx (i := 0) (by omega)
      obtain ⟨z6, ez6, bz6, cz6⟩ := Row.get hzx (i := 6) (by omega)
      obtain ⟨z7, ez7, bz7, cz7⟩ := Row.get hzx (i := 7) (by omega)
      obtain ⟨z8, ez8, bz8, cz8⟩ := Row.get hzx (i := 8) (by omega)
      walk_at "sx"
      have elA := kA _ _ nin0 el
      refine ⟨rs, ca, le, now, zs, vs, cs, left, rfl, ⟨hz, hzx⟩, by omega, w0, w1, kA _ _ nin0 e9, cls_keep w9 kA noT0, csok.l, elA, lleft, hnleft, hmleft, ne_of_none e6 nle, fun p HB m tk kd pl left' kB elB tB uB m0 m1 hok => ?_⟩
      have k9B : Keep [le] H9 HB := kA.all.trans kB
      have nle9 : ∀ {b o}, H6 b = some o → b ∉ [le] := fun e => nin1 (ne_of_none e nle)
      have hrB := k9B _ _ (nle9 hr6) hr9
      have hnB := k9B _ _ (nle9 hn6) hn9
      have hTB := hT9.keep k9B (noTup1 el)
      have hTB' := hTB
      have hzB := kB _ _ (nin1 (ne_of_none el nA).symm) hz
      have ewB := k9B _ _ (nin1 nwl) ew
      have wwB := wns_keep ww k9B (noT1 el)
      obtain ⟨ap, ar, as, rv, g1, g2, g3, g4, g5⟩ := hTB'
      refine g_tup tB rfl ?_
      walk_at "sx"
      refine ⟨_, _, rfl, _, _, rfl, _, _, rfl, rfl, ?_⟩
      walk_at "sx"
      have p1 := ok.p1
      have o1 := Int.emod_nonneg z0 (show (T.places.length : Int) ≠ 0 by omega)
      have o2 := Int.emod_lt_of_pos z0 (show 0 < (T.places.length : Int) by omega)
      apply g_orP (K := K) (H := HB) (pl := pl)
      case C => exact fun lp => lp ∈ T.places ∧ ∀ c, kd = some (true, c) → m ≤ now ∧ ∃ d ∈ cs, d.n = c ∧ d.p = lp
      case rest =>
        intro lp hlp
        walk_at "sx"
        refine g_ixT g1 (at_lit 2 rfl rfl) (g_ixL hzB (at_lit 7 rfl ez7) (g_ixT g1 (at_lit 2 rfl rfl) (g_lenT g5 ?_)))
        walk_at "sx"
        rw [List.length_map]
        have s1 := ok.s1
        have q1 := Int.emod_nonneg z7 (show (T.stands.length : Int) ≠ 0 by omega)
        have q2 := Int.emod_lt_of_pos z7 (show 0 < (T.stands.length : Int) by omega)
        obtain ⟨hm, hhm, ghm⟩ := at_str (ys := T.stands) q1 q2
        refine ⟨by omega, g_ixT g5 hhm ?_⟩
        walk_at "sx"
        refine g_ixT g1 (at_lit 0 rfl rfl) (g_ixL hzB (at_lit 6 rfl ez6) (g_ixT g1 (at_lit 0 rfl rfl) (g_lenT g2 ?_)))
        walk_at "sx"
        rw [List.length_map]
        have r1 := Int.emod_nonneg z6 (show (T.places.length : Int) ≠ 0 by omega)
        have r2 := Int.emod_lt_of_pos z6 (show 0 < (T.places.length : Int) by omega)
        obtain ⟨pp, hpp, gpp⟩ := at_str (ys := T.places) r1 r2
        refine ⟨by omega, g_ixT g2 hpp ⟨by walk_at "sz", fun l HC nC kC fC => g_ixL (kC _ _ nin0 hzB) (at_lit 8 rfl ez8) ?_⟩⟩
        walk_at "sx"
        obtain ⟨v, hv, mv⟩ := mul_at (x := z8) [V.str hm, V.str pp] 2 rfl (by decide)
        obtain ⟨post, rfl, hpost⟩ : ∃ d : Str, v = .str d ∧ d ∈ T.places := by
          simp only [List.mem_cons, List.not_mem_nil, or_false] at mv
          rcases mv with rfl | rfl
          · exact ⟨_, rfl, ok.sp _ (List.mem_of_getElem? ghm)⟩
          · exact ⟨_, rfl, List.mem_of_getElem? gpp⟩
        refine ⟨by decide, g_ixL fC hv ?_⟩
        walk_at "sx"
        have ewC := kC _ _ nin0 ewB
        refine ⟨.inl ⟨rfl, _, .inl (.inl ewC)⟩, g_ixL (kC _ _ nin0 hrB) (at_lit 17 rfl e17) ?_⟩
        walk_at "sx"
        have j1 := Int.emod_nonneg (x17 + (i : Nat)) (show (15 : Int) ≠ 0 by decide)
        have j2 := Int.emod_lt_of_pos (x17 + (i : Nat)) (show (0 : Int) < 15 by decide)
        obtain ⟨wn, hwn', gwn⟩ := at_str (ys := ys) j1 (by omega)
        refine ⟨by decide, g_ixL (kC _ _ nin0 hnB) hwn' ⟨by walk_at "sz", fun x HD nD kD tD => ?_⟩⟩
        have ewD := kD _ _ nin0 ewC
        refine g_append ewD (by rw [wwB.length, lws]; exact len_lt (by omega)) fun HE kE eE => ?_
        have kBD : Keep [] HB HD := kC.trans kD
        refine ⟨_, _, _, _, _, _, _, _, ws ++ [⟨wn, hm, post, lp, m, kd⟩], left', rfl, ?_, eE, ?_, ?_, ?_, ?_, ?_⟩
        · exact k9.trans ((k9B.wide fun b hb => by rw [List.mem_singleton.mp hb]; simp).trans (kBD.all.trans (kE.wide fun b hb => by rw [List.mem_singleton.mp hb]; simp)))
        · exact ei_snoc ⟨x, tk, rfl, tD.keep kE (noTup1 ewD _ _ tD), sqt_keep (sqt_keep uB kBD noT0) kE (noT1 ewD)⟩ (wns_keep (wns_keep wwB kBD noT0) kE (noT1 ewD))
        · exact kE _ _ (nin1 nwl.symm) (kBD _ _ nin0 elB)
        · rw [List.map_append, hwn, List.range_succ, List.map_append]
          congr 1
          show [wn] = [ys.getD ((x17 + (i : Nat)) % 15).toNat ""]
          rw [List.getD_eq_getElem?_getD, gwn]
          rfl
        · rw [List.filterMap_append]
          rcases hok with ⟨rfl, _, rfl⟩ | ⟨j, y, hy, rfl, ho⟩
          · show (ws.filterMap tkN ++ [] ++ left').Perm _
            rw [List.append_nil]
            exact hperm
          · have e1 : List.filterMap tkN [(⟨wn, hm, post, lp, m, kd⟩ : Wn)] = [y] := by
              rcases ho with ⟨rfl, _⟩ | ⟨rfl, _⟩ <;> rfl
            rw [e1]
            exact (perm_put hy).trans hperm
        · intro w hw
          rcases List.mem_append.mp hw with hw | hw
          · exact hwp w hw
          · rw [List.mem_singleton.mp hw]
            exact ⟨List.mem_of_getElem? ghm, hpost, hlp.1, ⟨m0, m1⟩, hlp.2⟩
      case h =>
        obtain ⟨pl0, hpl0, gpl0⟩ := at_str (ys := T.places) o1 o2
        rcases hok with ⟨rfl, rfl, rfl⟩ | ⟨j, y, hy, rfl, ⟨rfl, rfl⟩ | ⟨rfl, hmn, c, hc, hcn, rfl⟩⟩
        · refine .inl ⟨rfl, fun rest => g_ixT g1 (at_lit 0 rfl rfl) (g_ixL hzB (at_lit 0 rfl ez0) (g_ixT g1 (at_lit 0 rfl rfl) (g_lenT g2 ?_)))⟩
          walk_at "sx"
          rw [List.length_map]
          exact ⟨by omega, g_ixT g2 hpl0 (rest _ ⟨List.mem_of_getElem? gpl0, fun _ e => nomatch e⟩)⟩
        · refine .inl ⟨rfl, fun rest => g_ixT g1 (at_lit 0 rfl rfl) (g_ixL hzB (at_lit 0 rfl ez0) (g_ixT g1 (at_lit 0 rfl rfl) (g_lenT g2 ?_)))⟩
          walk_at "sx"
          rw [List.length_map]
          exact ⟨by omega, g_ixT g2 hpl0 (rest _ ⟨List.mem_of_getElem? gpl0, fun _ e => nomatch e⟩)⟩
        · have hn8 := (ok.nm _ (csok.p c hc))
          have hl := cl_len c.p
          refine .inr ⟨c.p, rfl, ⟨csok.p c hc, fun c' e => ?_⟩, by rw [hl]; exact hn8.1, len_le (by rw [hl]; have := hn8.2.1; omega)⟩
          cases e
          exact ⟨hmn, c, hc, hcn, rfl⟩
    · rintro σ H9 ⟨y6', y7', y12, y13, y14, y15, y16, vw, ws, left, rfl, k9, ew, ww, el, hwn, hperm, hwp⟩
      have k69 : Keep [] H6 H9 := (k7.trans k8).pastL k9 fun p hp => by
        rcases List.mem_cons.mp hp with rfl | hp
        · exact nle
        · rw [List.mem_singleton.mp hp]
          exact k7.free nin0 n8
      have hT9 := hT6.keep k69 noTup0
      have e9 := k69 _ _ nin0 e6
      have w9 := cls_keep w6 k69 noT0
      have lws : ws.length ≤ 5 := by
        have := congrArg List.length hwn
        rw [List.length_map, List.length_map, List.length_range] at this
        omega
      have wsok : WsOk T now cs ws := by
        refine ⟨lws, by rw [hwn]; exact names_nd ly nd (by omega), fun w hw => ?_, fun w hw => (hwp w hw).1, fun w hw => (hwp w hw).2.1, fun w hw => (hwp w hw).2.2.1, fun w hw => (hwp w hw).2.2.2.1, fun w hw c hc => ?_, fun w hw => (hwp w hw).2.2.2.2, ?_⟩
        · have hm : w.n ∈ ws.map Wn.n := List.mem_map.mpr ⟨w, hw, rfl⟩
          rw [hwn] at hm
          obtain ⟨k, hk, e⟩ := List.mem_map.mp hm
          have j1 := Int.emod_nonneg (x17 + (k : Nat)) (show (15 : Int) ≠ 0 by decide)
          have j2 := Int.emod_lt_of_pos (x17 + (k : Nat)) (show (0 : Int) < 15 by decide)
          rw [← e, List.getD_eq_getElem?_getD, List.getElem?_eq_getElem (by omega)]
          exact yok _ (List.getElem_mem _)
        · exact hperm.mem_iff.mp (List.mem_append_left _ (List.mem_filterMap.mpr ⟨w, hw, hc⟩))
        · exact (List.nodup_append.mp (hperm.nodup_iff.mpr csok.nd)).1
      unfold t__law_scene_r1
      walk_at "sx"
      refine g_sortW (lst_sq ew) ww fun wb HA wv nA kA fA wA => ?_
      refine g_sortC (lst_sq (kA _ _ nin0 e9)) (cls_keep w9 kA noT0) fun cb HB cv nB kB fB cB => ⟨by walk_at "sz", fun p HC nC kC tC => ?_⟩
      have kAC := kB.trans kC
      refine q p HC T now _ _ t wb cb wv cv (k06.trans (k69.trans (kA.trans kAC))) (ne_of_none fA nB) ⟨tC, hT9.keep (kA.trans kAC) noTup0, kAC _ _ nin0 fA, wns_keep wA kAC noT0, kC _ _ nin0 fB, cls_keep cB kC noT0⟩ ⟨ok, w0, w1, csok.perm (List.mergeSort_perm _ _), wsok.perm (List.mergeSort_perm _ _) (List.mergeSort_perm _ _), ⟨_, rfl⟩, ⟨_, rfl⟩⟩

theorem ch_row {K : PySem.W.Frag} {H : Hp} {c : Addr} {n g : Nat} {D : Tab} {Q : VK} (t : ChAt H c n D) (hg : g < n) (q : ∀ p, Tup H p (rowV n (D g)) → Q (.ref p) H) : uIx K (.ref c) (.int (g : Nat)) H Q := by
  obtain ⟨vs, h1, h2, h3⟩ := t
  obtain ⟨p, e, t⟩ := h3 g hg
  exact g_ixT h1 (at_lit g rfl e) (q p t)
theorem ChAt.keepN {H H' : Hp} {S : List Addr} {c : Addr} {n : Nat} {D : Tab} (h : ChAt H c n D) (k : Keep S H H') (nt : NoT S H) : ChAt H' c n D := by
  obtain ⟨vs, h1, h2, h3⟩ := h
  refine ⟨vs, h1.keep k (nt.tup _ _ h1), h2, fun g hg => ?_⟩
  obtain ⟨p, e, t⟩ := h3 g hg
  exact ⟨p, e, t.keep k (nt.tup _ _ t)⟩
def farN (T : Tn) (D : Tab) (now : Int) (w : Wn) (pl : Str) : Option Int := (D (pIx T.places pl) (pIx T.places w.l)).map fun m => m + (if now < w.m then w.m - now else 0)
def spFar (K : PySem.W.Frag) : Sp := fun vs H Q _ => ∃ (t c : Addr) (now : Int) (x : V) (pl : Str) (T : Tn) (D : Tab) (w : Wn), vs = [.ref t, .ref c, .int now, x, .str pl] ∧ TnAt H t T ∧ ChAt H c T.places.length D ∧ WnAt K H x w ∧ w.l ∈ T.places ∧ pl ∈ T.places ∧ Q (mV (farN T D now w pl)) H
theorem rd_far (K : PySem.W.Frag) : ∀ vs H Q E, spFar K vs H Q E → run (t_far K) (L2.start N_far vs) H Q := by
  rintro _ H Q _ ⟨t, c, now, x, pl, T, D, w, rfl, hT, hC, ⟨p, tk, rfl, tp, _⟩, hl, hp, q⟩
  show run (t_far K) [some (.ref t), some (.ref c), some (.int now), some (.ref p), some (.str pl), none, none, none, none] H Q
  obtain ⟨ap, ar, as, rv, g1, g2, g3, g4, g5⟩ := hT
  unfold t_far
  walk_at "sx"
  refine g_ixT g1 (at_lit 0 rfl rfl) ?_
  walk_at "sx"
  refine g_ixT tp (at_lit 3 rfl rfl) (g_ixT tp (at_lit 4 rfl rfl) ?_)
  walk_at "sx"
  refine ⟨_, _, rfl, ap, T.places, rfl, g2, pl, pIx T.places pl, rfl, g2, pIx_at hp, fun m => pIx_first, ch_row hC (pIx_lt hp) fun r hr => ?_⟩
  refine ⟨ap, T.places, rfl, g2, w.l, pIx T.places w.l, rfl, g2, pIx_at hl, fun m => pIx_first, g_ixT hr (at_lit _ rfl (rowV_at (pIx_lt hl))) ?_⟩
  walk_at "sx"
  unfold farN at q
  cases e : D (pIx T.places pl) (pIx T.places w.l) with
  | none =>
    rw [e] at q
    rw [if_pos (show mV none = V.non from rfl)]
    exact q
  | some m =>
    rw [e] at q
    rw [if_neg (show ¬ mV (some m) = V.non from fun e => nomatch e)]
    unfold t_far_r1
    walk_at "sx"
    show uAdd K (.int _) (.int m) H Q
    walk_at "sx"
    have e2 : (if (0 : Int) > w.m - now then 0 else w.m - now) + m = m + (if now < w.m then w.m - now else 0) := by split <;> split <;> omega
    rw [e2]
    exact q
def isN (nm : Str) (c : Cl) : Bool := decide (c.n = nm)
theorem find_take {cs : List Cl} {i : Nat} {c : Cl} {P : Cl → Bool} (h : cs[i]? = some c) (n : (cs.take i).find? P = none) (p : P c = true) : cs.find? P = some c := by
  have e : cs = cs.take i ++ c :: cs.drop (i + 1) := by
    obtain ⟨hi, e⟩ := List.getElem?_eq_some_iff.mp h
    rw [← e, List.getElem_cons_drop, List.take_append_drop]
  rw [e, List.find?_append, n, List.find?_cons, p]
  rfl
theorem find_next {cs : List Cl} {i : Nat} {c : Cl} {P : Cl → Bool} (h : cs[i]? = some c) (n : (cs.take i).find? P = none) (p : P c = false) : (cs.take (i + 1)).find? P = none := by
  rw [List.take_succ, h, List.find?_append, n]
  simp [p]
def gradeOf (cs : List Cl) (nm : Str) : Int := ((cs.find? (isN nm)).map Cl.g).getD 0
theorem found_of {cs : List Cl} {nm : Str} (h : nm ∈ cs.map Cl.n) : ∃ c, cs.find? (isN nm) = some c ∧ c ∈ cs ∧ c.n = nm := by
  obtain ⟨c, hc, e⟩ := List.mem_map.mp h
  cases f : cs.find? (isN nm) with
  | none => exact absurd (decide_eq_true e) (by have := List.find?_eq_none.mp f c hc; exact this)
  | some d => exact ⟨d, rfl, List.mem_of_find?_eq_some f, of_decide_eq_true (show isN nm d = true from List.find?_some f)⟩
def mayB (cs : List Cl) (w : Wn) (nm : Str) : Bool := match w.k with
  | none => true
  | some (true, _) => false
  | some (false, c) => decide (gradeOf cs nm < gradeOf cs c)
/-- a comparison of a task with that of the free -/
theorem eqv_free : ∀ k : Option (Bool × Str), PyData.eqv (tkD k) (.tuple [.str "free"]) = k.isNone
  | none => by decide +kernel
  | some (false, c) => by simp [tkD, PyData.eqv, PyData.eqvAll]
  | some (true, c) => by simp [tkD, PyData.eqv, PyData.eqvAll]
def TkN (k : Option (Bool × Str)) : Prop := ∀ b c, k = some (b, c) → NameOk (cl c)
theorem shaped_tk {k : Option (Bool × Str)} (h : TkN k) : SeqAt.shaped (tkD k) = true := by
  unfold SeqAt.shaped
  rw [Bool.and_eq_true_iff]
  have hd := depth_tk k
  refine ⟨?_, decide_eq_true (by omega)⟩
  rcases k with _ | ⟨_ | _, c⟩
  · decide +kernel
  · have := name_ok (h _ _ rfl)
    simp [tkD, PyData.canLay0, PyData.canLayAll0, this]
    decide +kernel
  · have := name_ok (h _ _ rfl)
    simp [tkD, PyData.canLay0, PyData.canLayAll0, this]
    decide +kernel
theorem eq_free {K : PySem.W.Frag} {H : Hp} {a b : Addr} {k : Option (Bool × Str)} {Q : VK} (h : SqT K H a (tkV k)) (hk : TkN k) (e : SqT K H b [.str "free"]) (q : Q (.bl k.isNone) H) : uEq K false (.ref a) (.ref b) H Q :=
  .inr ⟨_, _, dp_tk h, .tup e (.cons (.str _) .nil), shaped_tk hk, by decide +kernel, by rw [if_neg (by decide), eqv_free]; exact q⟩
theorem ne_free {K : PySem.W.Frag} {H : Hp} {a b : Addr} {k : Option (Bool × Str)} {Q : VK} (h : SqT K H a (tkV k)) (hk : TkN k) (e : SqT K H b [.str "free"]) (q : Q (.bl (!k.isNone)) H) : uEq K true (.ref a) (.ref b) H Q :=
  .inr ⟨_, _, dp_tk h, .tup e (.cons (.str _) .nil), shaped_tk hk, by decide +kernel, by rw [if_pos rfl, eqv_free]; exact q⟩
theorem g_ixK {K : PySem.W.Frag} {p : Addr} {xs : List V} {i : Int} {v : V} {H : Hp} {Q : VK} (h : SqT K H p xs) (e : atI xs i = some v) (q : Q v H) : uIx K (.ref p) (.int i) H Q := .inl ⟨p, xs, i, v, rfl, rfl, .inr h, e, q⟩
def spMay (K : PySem.W.Frag) : Sp := fun vs H Q _ => ∃ (a : Addr) (xs : List V) (cs : List Cl) (x : V) (w : Wn) (nm : Str), vs = [.ref a, x, .str nm] ∧ Sq H a xs ∧ EI (ClAt H) xs cs ∧ cs.length ≤ 10 ∧ WnAt K H x w ∧ TkN w.k ∧ (cs.map Cl.n).Nodup ∧ (∀ c, tkN w = some c → c ∈ cs.map Cl.n) ∧ nm ∈ cs.map Cl.n ∧
  ∀ H', Keep [] H H' → Q (.bl (mayB cs w nm)) H'
/-- rows that have a name first: what `named` looks for -/
def spNamed (K : PySem.W.Frag) : Sp := fun vs H Q _ => ∃ (α : Type) (R : Hp → V → α → Prop) (nmOf : α → Str) (a : Addr) (xs : List V) (cs : List α) (nm : Str), vs = [.ref a, .str nm] ∧ Sq H a xs ∧ EI (R H) xs cs ∧
  (∀ H' H'' x r, R H' x r → Keep [] H' H'' → R H'' x r) ∧ (∀ H' x r, R H' x r → ∃ p ys, x = .ref p ∧ SqT K H' p (.str (nmOf r) :: ys)) ∧
  (∀ H' x c, Keep [] H H' → cs.find? (fun c => decide (nmOf c = nm)) = some c → R H' x c → Q x H') ∧ (∀ H', Keep [] H H' → cs.find? (fun c => decide (nmOf c = nm)) = none → Q .non H')
theorem find_takeG {α : Type} {cs : List α} {i : Nat} {c : α} {P : α → Bool} (h : cs[i]? = some c) (n : (cs.take i).find? P = none) (p : P c = true) : cs.find? P = some c := by
  have e : cs = cs.take i ++ c :: cs.drop (i + 1) := by
    obtain ⟨hi, e⟩ := List.getElem?_eq_some_iff.mp h
    rw [← e, List.getElem_cons_drop, List.take_append_drop]
  rw [e, List.find?_append, n, List.find?_cons, p]
  rfl
theorem find_nextG {α : Type} {cs : List α} {i : Nat} {c : α} {P : α → Bool} (h : cs[i]? = some c) (n : (cs.take i).find? P = none) (p : P c = false) : (cs.take (i + 1)).find? P = none := by
  rw [List.take_succ, h, List.find?_append, n]
  simp [p]
theorem rd_named (K : PySem.W.Frag) : ∀ vs H Q E, spNamed K vs H Q E → run (t_named K) (L2.start N_named vs) H Q := by
  rintro _ H Q _ ⟨α, R, nmOf, a, xs, cs, nm, rfl, hq, he, hk, ht, q1, q2⟩
  show run (t_named K) [some (.ref a), some (.str nm), none] H Q
  unfold t_named
  walk_at "sx"
  refine g_FEs (RR := R) [] hq nin0 he (fun H' x r h k => hk _ _ _ _ h k) (fun i σ H' => ∃ y, σ = [some (.ref a), some (.str nm), y] ∧ (cs.take i).find? (fun c => decide (nmOf c = nm)) = none) ⟨_, rfl, rfl⟩ ?_ ?_
  · rintro i x c σ H1 hi k1 hx ⟨y, rfl, hn⟩
    obtain ⟨p, ys, rfl, tp⟩ := ht _ _ _ hx
    walk_at "sx"
    unfold t_named_b1
    walk_at "sx"
    refine g_ixK tp (at_lit 0 rfl rfl) (g_eq rfl ⟨_, rfl, ?_⟩)
    rw [dec_strV]
    by_cases h : nmOf c = nm
    · rw [decide_eq_true h, if_pos rfl]
      exact q1 H1 _ c k1 (find_takeG hi hn (decide_eq_true h)) hx
    · rw [decide_eq_false h, if_neg (by decide)]
      exact ⟨k1, _, rfl, find_nextG hi hn (decide_eq_false h)⟩
  · rintro σ H1 k1 ⟨y, rfl, hn⟩
    unfold t_named_r1
    walk_at "sx"
    rw [List.take_length] at hn
    exact q2 H1 k1 hn
/-- calls by name -/
theorem named_cl {K : PySem.W.Frag} {H : Hp} {a : Addr} {xs : List V} {cs : List Cl} {nm : Str} {Q : VK} {E : XK} (hq : Sq H a xs) (he : EI (ClAt H) xs cs)
    (q1 : ∀ H' x c, Keep [] H H' → cs.find? (isN nm) = some c → ClAt H' x c → Q x H') (q2 : ∀ H', Keep [] H H' → cs.find? (isN nm) = none → Q .non H') : spNamed K [.ref a, .str nm] H Q E :=
  ⟨Cl, fun H x c => ClAt H x c, Cl.n, a, xs, cs, nm, rfl, hq, he, fun _ _ _ _ h k => h.keep k noT0, fun _ _ _ ⟨p, e, t⟩ => ⟨p, _, e, t.sq⟩, q1, q2⟩
/-- wagons by name -/
theorem named_wn {K : PySem.W.Frag} {H : Hp} {a : Addr} {xs : List V} {ws : List Wn} {nm : Str} {Q : VK} {E : XK} (hq : Sq H a xs) (he : EI (WnAt K H) xs ws)
    (q1 : ∀ H' x c, Keep [] H H' → ws.find? (fun w => decide (w.n = nm)) = some c → WnAt K H' x c → Q x H') (q2 : ∀ H', Keep [] H H' → ws.find? (fun w => decide (w.n = nm)) = none → Q .non H') : spNamed K [.ref a, .str nm] H Q E :=
  ⟨Wn, fun H x w => WnAt K H x w, Wn.n, a, xs, ws, nm, rfl, hq, he, fun _ _ _ _ h k => h.keep k noT0, fun _ _ _ ⟨p, tk, e, t, _⟩ => ⟨p, _, e, t.sq⟩, q1, q2⟩
theorem rd_may (K : PySem.W.Frag) {aF : Addr} (hF : ∀ H : Hp, SqT K H aF [.str "free"]) : ∀ vs H Q E, spMay K vs H Q E → run (t_may_be_sent K (spNamed K) aF) (L2.start N_may_be_sent vs) H Q := by
  rintro _ H Q _ ⟨a, xs, cs, x, w, nm, rfl, hq, he, l10, ⟨p, tk, rfl, tp, utk⟩, hn, nd, ht, hm, q⟩
  show run (t_may_be_sent K (spNamed K) aF) [some (.ref a), some (.ref p), some (.str nm), none] H Q
  unfold t_may_be_sent
  walk_at "sx"
  refine g_ixT tp (at_lit 5 rfl rfl) ?_
  walk_at "sx"
  refine eq_free utk hn (hF H) ⟨_, rfl, ?_⟩
  unfold mayB at q
  rcases hk : w.k with _ | ⟨_ | _, c⟩
  · rw [hk] at q
    exact q H (Keep.refl _ _)
  all_goals rw [hk] at q utk
  · rw [if_neg (by simp)]
    unfold t_may_be_sent_r1
    walk_at "sx"
    refine g_ixK utk (at_lit 0 rfl rfl) (g_eq rfl ?_)
    rw [dec_strV, decide_eq_true rfl]
    walk_at "sx"
    obtain ⟨d, hfd, hdm, _⟩ := found_of (ht c (by unfold tkN; rw [hk]; rfl))
    obtain ⟨e, hfe, hem, _⟩ := found_of hm
    refine g_ixK utk (at_lit 1 rfl rfl) (named_cl hq he (fun H1 x d' k1 hf hd => ?_) (fun H1 _ hf => by rw [hfd] at hf; cases hf))
    obtain ⟨pd, rfl, td⟩ := hd
    refine g_ixT td (at_lit 2 rfl rfl) (named_cl (hq.keep k1 nin0) (cls_keep he k1 noT0) (fun H2 y e' k2 hf2 he2 => ?_) (fun H1 _ hf => by rw [hfe] at hf; cases hf))
    obtain ⟨pe, rfl, te⟩ := he2
    refine g_ixT te (at_lit 2 rfl rfl) ?_
    walk_at "sx"
    have e1 : gradeOf cs nm = e'.g := by unfold gradeOf; rw [hf2]; rfl
    have e2 : gradeOf cs c = d'.g := by unfold gradeOf; rw [hf]; rfl
    have q' := q H2 (k1.trans k2)
    simp only [e1, e2] at q'
    exact q'
  · rw [if_neg (by simp)]
    unfold t_may_be_sent_r1
    walk_at "sx"
    refine g_ixK utk (at_lit 0 rfl rfl) (g_eq rfl ?_)
    rw [dec_strV, decide_eq_false (by decide)]
    walk_at "sx"
    exact q H (Keep.refl _ _)
def kvC (c : Cl) : Key × V := (Sum.inr c.n, V.int c.g)
theorem valV_grades (nm : Str) : ∀ cs : List Cl, valV (cs.map kvC) (Sum.inr nm) = (cs.find? (isN nm)).map fun c => V.int c.g
  | [] => rfl
  | c :: cs => by
    have ih := valV_grades nm cs
    unfold valV at ih ⊢
    rw [List.map_cons, List.find?_cons, List.find?_cons]
    by_cases h : c.n = nm
    · have e1 : decide ((kvC c).1 = Sum.inr nm) = true := decide_eq_true (by show (Sum.inr c.n : Key) = Sum.inr nm; rw [h])
      have e2 : isN nm c = true := decide_eq_true h
      rw [e1, e2]
      rfl
    · have e1 : decide ((kvC c).1 = Sum.inr nm) = false := decide_eq_false fun z => h (by injection z)
      have e2 : isN nm c = false := decide_eq_false h
      rw [e1, e2]
      exact ih
theorem paired_of {α β : Type} {R : α → β → Prop} : ∀ {xs : List α} {ys : List β}, EI R xs ys → Paired R xs ys
  | _, _, .nil => .nil
  | _, _, .cons h t => .cons h (paired_of t)
theorem kvs_nodup {cs : List Cl} (h : (cs.map Cl.n).Nodup) : ((([] : List (Key × V)) ++ cs.map kvC).map (fun kv => kv.1)).Nodup := by
  have e : (([] : List (Key × V)) ++ cs.map kvC).map (fun kv => kv.1) = (cs.map Cl.n).map Sum.inr := by simp [kvC, Function.comp_def]
  rw [e]
  exact List.pairwise_map.mpr (h.imp fun hne e => hne (by injection e))
theorem dp_cls {K : PySem.W.Frag} {H : Hp} : ∀ {vs : List V} {cs : List Cl}, EI (ClAt H) vs cs → DpAll K H vs (cs.map clD)
  | _, _, .nil => .nil
  | _, _, .cons h q => .cons (dp_cl h) (dp_cls q)
theorem lay_cls : ∀ {cs : List Cl}, (∀ c ∈ cs, NameOk (cl c.n) ∧ NameOk (cl c.p)) → PyData.canLayAll0 (cs.map clD) = true ∧ PyData.depthAll (cs.map clD) ≤ 3
  | [], _ => by simp [PyData.canLayAll0, PyData.depthAll]
  | c :: cs, h => by
    obtain ⟨h1, h2⟩ := lay_cls fun d hd => h d (List.mem_cons_of_mem _ hd)
    obtain ⟨n1, n2⟩ := h c List.mem_cons_self
    have e1 := name_ok n1
    have e2 := name_ok n2
    simp [PyData.canLayAll0, PyData.depthAll, clD, PyData.canLay0, PyData.depth, e1, e2, h1] at *
    omega
theorem shaped_cls {cs : List Cl} (h : ∀ c ∈ cs, NameOk (cl c.n) ∧ NameOk (cl c.p)) : SeqAt.shaped (.list (cs.map clD)) = true := by
  obtain ⟨h1, h2⟩ := lay_cls h
  unfold SeqAt.shaped
  rw [Bool.and_eq_true_iff]
  refine ⟨by simp [PyData.canLay0, h1], decide_eq_true ?_⟩
  simp [PyData.depth]
  omega
theorem sorted_again {cs cs0 : List Cl} (h : cs = cs0.mergeSort leC) : cs.mergeSort leC = cs := by
  refine (PySem.W.sort_unique (PySem.W.sortLe_total _ false _) ?_ fun _ => rfl).symm
  rw [h]
  exact PySem.W.sort_pairwise (PySem.W.sortLe_total _ false _) cs0
/-! ### cut off -/
def placeOf (cs : List Cl) (nm : Str) : Str := ((cs.find? (isN nm)).map Cl.p).getD ""
def callOf (w : Wn) : Str := match w.k with
  | some (_, c) => c
  | none => ""
structure WF (T : Tn) (cs : List Cl) (ws : List Wn) : Prop where
  l : ws.length ≤ 5
  pl : ∀ w ∈ ws, w.l ∈ T.places
  k : ∀ w ∈ ws, TkN w.k
  t : ∀ w ∈ ws, ∀ c, tkN w = some c → c ∈ cs.map Cl.n
  nm : ∀ w ∈ ws, NameOk (cl w.n) ∧ NameOk (cl w.h) ∧ NameOk (cl w.p) ∧ NameOk (cl w.l)
theorem wf_of {T : Tn} {now : Int} {cs : List Cl} {ws : List Wn} (ok : TnOk T) (c : CsOk T now cs) (h : WsOk T now cs ws) : WF T cs ws :=
  ⟨h.l, h.pl, fun w hw b d e => by
    obtain ⟨x, hx, rfl⟩ := List.mem_map.mp (h.t w hw d (by unfold tkN; rw [e]; rfl))
    exact c.nm x hx, h.t, fun w hw => ⟨h.nm w hw, ok.nm _ (ok.sp _ (h.h w hw)), ok.nm _ (h.p w hw), ok.nm _ (h.pl w hw)⟩⟩
theorem dp_wns {K : PySem.W.Frag} {H : Hp} : ∀ {vs : List V} {ws : List Wn}, EI (WnAt K H) vs ws → DpAll K H vs (ws.map wnD)
  | _, _, .nil => .nil
  | _, _, .cons h q => .cons (dp_wn h) (dp_wns q)
theorem lay_wns : ∀ {ws : List Wn}, (∀ w ∈ ws, (NameOk (cl w.n) ∧ NameOk (cl w.h) ∧ NameOk (cl w.p) ∧ NameOk (cl w.l)) ∧ TkN w.k) → PyData.canLayAll0 (ws.map wnD) = true ∧ PyData.depthAll (ws.map wnD) ≤ 4
  | [], _ => by simp [PyData.canLayAll0, PyData.depthAll]
  | c :: cs, h => by
    obtain ⟨h1, h2⟩ := lay_wns fun d hd => h d (List.mem_cons_of_mem _ hd)
    obtain ⟨⟨n1, n2, n3, n4⟩, n5⟩ := h c List.mem_cons_self
    have e1 := name_ok n1
    have e2 := name_ok n2
    have e3 := name_ok n3
    have e4 := name_ok n4
    have e5 : (tkD c.k).canLay0 = true := by
      have h := shaped_tk n5
      unfold SeqAt.shaped at h
      exact (Bool.and_eq_true_iff.mp h).1
    have e6 := depth_tk c.k
    simp [PyData.canLayAll0, PyData.depthAll, wnD, PyData.canLay0, PyData.depth, e1, e2, e3, e4, e5, h1] at *
    omega
/-- two like tuples of two lists -/
theorem ne_same {K : PySem.W.Frag} {H : Hp} {a b : V} {xs ys : List PyData} {Q : VK} (h1 : Dp K H a (.tuple [.list xs, .list ys])) (h2 : Dp K H b (.tuple [.list xs, .list ys])) (x1 : PyData.canLayAll0 xs = true ∧ PyData.depthAll xs ≤ 4) (x2 : PyData.canLayAll0 ys = true ∧ PyData.depthAll ys ≤ 4) (q : Q (.bl false) H) : uEq K true a b H Q := by
  have c : (PyData.tuple [.list xs, .list ys]).canLay0 = true := by simp [PyData.canLay0, PyData.canLayAll0, x1.1, x2.1]
  have s : SeqAt.shaped (.tuple [.list xs, .list ys]) = true := by
    unfold SeqAt.shaped
    rw [Bool.and_eq_true_iff]
    refine ⟨c, decide_eq_true ?_⟩
    have := x1.2
    have := x2.2
    simp [PyData.depth, PyData.depthAll]
    omega
  refine .inr ⟨_, _, h1, h2, s, s, ?_⟩
  rw [if_pos rfl, SeqAt.eqv_refl _ c]
  exact q
theorem wf_lay {T : Tn} {cs : List Cl} {ws : List Wn} (h : WF T cs ws) : PyData.canLayAll0 (ws.map wnD) = true ∧ PyData.depthAll (ws.map wnD) ≤ 4 := lay_wns fun w hw => ⟨h.nm w hw, h.k w hw⟩
/-! ### who is chosen -/
abbrev Ky := Int × Int × Str
def ktV (k : Ky) : List V := [.int k.1, .int k.2.1, .str k.2.2]
def ktD (k : Ky) : PyData := .tuple [.int k.1, .int k.2.1, .str k.2.2]
theorem ktD_inj {a b : Ky} (h : ktD a = ktD b) : a = b := by
  obtain ⟨a1, a2, a3⟩ := a
  obtain ⟨b1, b2, b3⟩ := b
  simp [ktD] at h
  obtain ⟨rfl, rfl, rfl⟩ := h
  rfl
def KtAt (H : Hp) (x : V) (k : Ky) : Prop := ∃ p, x = .ref p ∧ Tup H p (ktV k)
theorem KtAt.keep {S : List Addr} {H H' : Hp} {x : V} {c : Ky} (h : KtAt H x c) (k : Keep S H H') (n : NoT S H) : KtAt H' x c := let ⟨p, e, t⟩ := h; ⟨p, e, t.keep k (n.tup _ _ t)⟩
theorem dp_kt {K : PySem.W.Frag} {H : Hp} {x : V} {c : Ky} (h : KtAt H x c) : Dp K H x (ktD c) := by
  obtain ⟨p, rfl, t⟩ := h
  exact .tup t.sq (.cons (.int _) (.cons (.int _) (.cons (.str _) .nil)))
theorem alike_kt (a b : Ky) : PySem.W.alike (ktD a) (ktD b) = true := by simp [ktD, PySem.W.alike, PySem.W.alikeAll]
theorem depth_kts : ∀ ks : List Ky, PyData.depthAll (ks.map ktD) ≤ 1
  | [] => by simp [PyData.depthAll]
  | k :: ks => by
    have := depth_kts ks
    simp [PyData.depthAll, ktD, PyData.depth] at *
    omega
def kLt (y a : Ky) : Bool := PySem.W.dataLt (ktD y) (ktD a)
theorem kt_ne (k : Ky) : ktD k ≠ .none := fun z => by unfold ktD at z; cases z
theorem depth_kt (k : Ky) : (ktD k).depth ≤ 50 := by simp [ktD, PyData.depth, PyData.depthAll]
def keyOf (T : Tn) (D : Tab) (now : Int) (cs : List Cl) (nm : Str) (w : Wn) : Option Ky := if mayB cs w nm then (farN T D now w (placeOf cs nm)).map fun m => (m, if w.k.isNone then 0 else 1, w.n) else none
def keysL (T : Tn) (D : Tab) (now : Int) (cs : List Cl) (nm : Str) (ws : List Wn) : List Ky := ws.filterMap (keyOf T D now cs nm)
def bestOf : List Ky → Option Ky
  | [] => none
  | k :: ks => some (ks.foldl (fun a y => if kLt y a then y else a) k)
def chosenN (T : Tn) (D : Tab) (now : Int) (cs : List Cl) (ws : List Wn) (nm : Str) : Option Str := (bestOf (keysL T D now cs nm ws)).map fun k => k.2.2
theorem best_snoc (l : List Ky) (k : Ky) : bestOf (l ++ [k]) = some (match bestOf l with | none => k | some b => if kLt k b then k else b) := by
  cases l with
  | nil => rfl
  | cons x l =>
    show some ((l ++ [k]).foldl _ x) = _
    rw [List.foldl_append]
    rfl
theorem keysL_next {T : Tn} {D : Tab} {now : Int} {cs : List Cl} {nm : Str} {ws : List Wn} {i : Nat} {w : Wn} (h : ws[i]? = some w) : keysL T D now cs nm (ws.take (i + 1)) = keysL T D now cs nm (ws.take i) ++ (keyOf T D now cs nm w).toList := by
  unfold keysL
  rw [List.take_succ, h, List.filterMap_append]
  cases e : keyOf T D now cs nm w <;> simp [e]
theorem keysL_len {T : Tn} {D : Tab} {now : Int} {cs : List Cl} {nm : Str} {ws : List Wn} : (keysL T D now cs nm ws).length ≤ ws.length := List.length_filterMap_le _ _
def sV : Option Str → V
  | none => .non
  | some s => .str s
structure Sc (K : PySem.W.Frag) (H : Hp) (T : Tn) (D : Tab) (cs : List Cl) (ws : List Wn) (t c b a : Addr) (wv cv : List V) : Prop where
  hT : TnAt H t T
  hC : ChAt H c T.places.length D
  hW : Sq H b wv
  w : EI (WnAt K H) wv ws
  wf : WF T cs ws
  hA : Sq H a cv
  a : EI (ClAt H) cv cs
  cp : ∀ c ∈ cs, c.p ∈ T.places
  l : cs.length ≤ 10
  nd : (cs.map Cl.n).Nodup
theorem Sc.keep {K : PySem.W.Frag} {S : List Addr} {H H' : Hp} {T : Tn} {D : Tab} {cs : List Cl} {ws : List Wn} {t c b a : Addr} {wv cv : List V} (h : Sc K H T D cs ws t c b a wv cv) (k : Keep S H H') (n : NoT S H) (n1 : b ∉ S) (n2 : a ∉ S) : Sc K H' T D cs ws t c b a wv cv :=
  ⟨h.hT.keep k n.tup, h.hC.keepN k n, h.hW.keep k n1, wns_keep h.w k n, h.wf, h.hA.keep k n2, cls_keep h.a k n, h.cp, h.l, h.nd⟩
theorem Sc.keep0 {K : PySem.W.Frag} {H H' : Hp} {T : Tn} {D : Tab} {cs : List Cl} {ws : List Wn} {t c b a : Addr} {wv cv : List V} (h : Sc K H T D cs ws t c b a wv cv) (k : Keep [] H H') : Sc K H' T D cs ws t c b a wv cv := h.keep k noT0 nin0 nin0
def spChosen (K : PySem.W.Frag) : Sp := fun vs H Q _ => ∃ (t c b a : Addr) (now : Int) (nm : Str) (T : Tn) (D : Tab) (cs : List Cl) (ws : List Wn) (wv cv : List V), vs = [.ref t, .ref c, .int now, .ref b, .ref a, .str nm] ∧ Sc K H T D cs ws t c b a wv cv ∧ nm ∈ cs.map Cl.n ∧
  ∀ H', Keep [] H H' → Q (sV (chosenN T D now cs ws nm)) H'
/-! ### which calls wait -/
theorem lenK {K : PySem.W.Frag} {p : Addr} {xs : List V} {H : Hp} {Q : VK} (h : SqT K H p xs) (q : Q (.int xs.length) H) : uLen K [.ref p] H Q := ⟨.ref p, xs.length, rfl, .inr ⟨xs, h, rfl⟩, q⟩
def qk (c : Cl) : Ky := (c.g, c.s, c.n)
abbrev leK : Ky → Ky → Bool := PySem.W.dataLe false ktD
def M (ks : List Ky) : List Str := (ks.mergeSort leK).map fun k => k.2.2
def openC (ws : List Wn) (c : Cl) : Bool := decide (c.n ∉ ws.filterMap tkN)
def waitN (ws : List Wn) (cs : List Cl) : List Str := M ((cs.filter (openC ws)).map qk)
theorem toks_inj {a b : Ky} (h : PySem.W.keyToks (ktD a) = PySem.W.keyToks (ktD b)) : a = b := by
  obtain ⟨a1, a2, a3⟩ := a
  obtain ⟨b1, b2, b3⟩ := b
  simp [ktD, PySem.W.keyToks, PySem.W.keyToksAll] at h
  obtain ⟨rfl, rfl, h⟩ := h
  have := cl_inj (x := a3) (y := b3) (by unfold cl; rw [h])
  rw [this]
theorem leK_total : PySem.W.TotalLe leK := PySem.W.sortLe_total _ false _
theorem leK_iff {a b : Ky} : leK a b = true ↔ kLt b a = false := by
  show (!PySem.W.dataLt (ktD b) (ktD a)) = true ↔ _
  unfold kLt
  simp
theorem leK_anti {a b : Ky} (h1 : leK a b = true) (h2 : leK b a = true) : a = b :=
  toks_inj ((PyProof.Rows.listOrd PyProof.Rows.itemOrd).total _ _ (show PySem.W.dataLt (ktD a) (ktD b) = false from leK_iff.mp h2) (show PySem.W.dataLt (ktD b) (ktD a) = false from leK_iff.mp h1))
theorem perm_sorted {α : Type} {le : α → α → Prop} (anti : ∀ a b, le a b → le b a → a = b) : ∀ {l m : List α}, l.Pairwise le → m.Pairwise le → l.Perm m → l = m
  | [], m, _, _, p => (List.nil_perm.mp p).symm
  | a :: l, m, h1, h2, p => by
    cases m with
    | nil => exact absurd p.length_eq (by simp)
    | cons b m =>
      have hab : a = b := by
        rcases List.mem_cons.mp (p.mem_iff.mp List.mem_cons_self) with e | ha
        · exact e
        · rcases List.mem_cons.mp (p.mem_iff.mpr List.mem_cons_self) with e | hb
          · exact e.symm
          · exact anti a b ((List.pairwise_cons.mp h1).1 b hb) ((List.pairwise_cons.mp h2).1 a ha)
      subst hab
      rw [perm_sorted anti (List.pairwise_cons.mp h1).2 (List.pairwise_cons.mp h2).2 (List.perm_cons a |>.mp p)]
theorem M_cons {b : Ky} {ks rest : List Ky} (p : ks.Perm (b :: rest)) (h : ∀ y ∈ ks, kLt y b = false) : M ks = b.2.2 :: M rest := by
  have e : ks.mergeSort leK = b :: rest.mergeSort leK := by
    refine perm_sorted (fun a b => leK_anti) (PySem.W.sort_pairwise leK_total ks) (List.pairwise_cons.mpr ⟨fun y hy => ?_, PySem.W.sort_pairwise leK_total rest⟩) ?_
    · exact leK_iff.mpr (h y (p.mem_iff.mpr (List.mem_cons_of_mem _ ((List.mergeSort_perm rest leK).mem_iff.mp hy))))
    · exact (List.mergeSort_perm ks leK).trans (p.trans ((List.mergeSort_perm rest leK).symm.cons b))
  unfold M
  rw [e]
  rfl
theorem kLt_trans {a b c : Ky} (h1 : kLt a b = true) (h2 : kLt b c = true) : kLt a c = true := (PyProof.Rows.listOrd PyProof.Rows.itemOrd).trans (PySem.W.keyToks (ktD a)) (PySem.W.keyToks (ktD b)) (PySem.W.keyToks (ktD c)) h1 h2
theorem kLt_irr (a : Ky) : kLt a a = false := (PyProof.Rows.listOrd PyProof.Rows.itemOrd).irrefl (PySem.W.keyToks (ktD a))
theorem best_step {y z b : Ky} (h : kLt y b = false) (hz : kLt z b = true) : kLt y z = false := by
  cases e : kLt y z with
  | false => rfl
  | true => exact absurd (kLt_trans e hz) (by rw [h]; decide)
theorem eqv_cl {a b : Cl} (h : PyData.eqv (clD a) (clD b) = true) : a = b := by
  obtain ⟨a1, a2, a3, a4⟩ := a
  obtain ⟨b1, b2, b3, b4⟩ := b
  simp [clD, PyData.eqv, PyData.eqvAll] at h
  obtain ⟨rfl, rfl, rfl, rfl⟩ := h
  rfl
theorem eqv_cl_self (a : Cl) : PyData.eqv (clD a) (clD a) = true := by simp [clD, PyData.eqv, PyData.eqvAll]
structure WQ (ws : List Wn) : Prop where
  l : ws.length ≤ 5
  nm : ∀ w ∈ ws, (NameOk (cl w.n) ∧ NameOk (cl w.h) ∧ NameOk (cl w.p) ∧ NameOk (cl w.l)) ∧ TkN w.k
structure CQ (cs : List Cl) : Prop where
  l : cs.length ≤ 10
  nm : ∀ c ∈ cs, NameOk (cl c.n) ∧ NameOk (cl c.p)
theorem plain_cls : ∀ cs : List Cl, PyData.plainAll (cs.map clD) = true
  | [] => rfl
  | c :: cs => by simp [PyData.plainAll, plain_cls cs, clD, PyData.plain]
def spWaiting (K : PySem.W.Frag) : Sp := fun vs H Q _ => ∃ (b a : Addr) (wv cv : List V) (ws : List Wn) (cs : List Cl), vs = [.ref b, .ref a] ∧ Sq H b wv ∧ EI (WnAt K H) wv ws ∧ WQ ws ∧ Sq H a cv ∧ EI (ClAt H) cv cs ∧ CQ cs ∧
  ∀ p H', H p = none → Keep [] H H' → H' p = some (.lst ((waitN ws cs).map V.str)) → Q (.ref p) H'
theorem served_next {ws : List Wn} {i : Nat} {w : Wn} (h : ws[i]? = some w) : (ws.take (i + 1)).filterMap tkN = (ws.take i).filterMap tkN ++ (tkN w).toList := by
  rw [List.take_succ, h, List.filterMap_append]
  cases e : tkN w <;> simp [e]
theorem served_len {ws : List Wn} {i : Nat} (h : ws.length ≤ 5) : ((ws.take i).filterMap tkN).length ≤ 5 := by
  have := List.length_filterMap_le tkN (ws.take i)
  rw [List.length_take] at this
  omega
/-- a name that isn't in a list of names -/
theorem g_notinS {K : PySem.W.Frag} {p : Addr} {z : Str} {ys : List Str} {H : Hp} {Q : VK} (h : H p = some (.lst (ys.map V.str))) (q : Q (.bl (decide (z ∉ ys))) H) : uIn K true (.str z) (.ref p) H Q :=
  .inl ⟨p, _, rfl, .inl (lst_sq h), rfl, flat_strs ys, by rw [if_pos rfl, inV_str]; simpa using q⟩
theorem shaped_list {ds : List PyData} (h1 : PyData.canLayAll0 ds = true) (h2 : PyData.depthAll ds ≤ 4) : SeqAt.shaped (.list ds) = true := by
  unfold SeqAt.shaped
  rw [Bool.and_eq_true_iff]
  refine ⟨by simp [PyData.canLay0, h1], decide_eq_true ?_⟩
  simp [PyData.depth]
  omega
theorem ne_nilD {K : PySem.W.Frag} {H : Hp} {a b : Addr} {xs : List V} {ds : List PyData} {Q : VK} (h : H a = some (.lst xs)) (d : DpAll K H xs ds) (c : PyData.canLayAll0 ds = true) (l : PyData.depthAll ds ≤ 4) (e : H b = some (.lst [])) (q : Q (.bl (!xs.isEmpty)) H) : uEq K true (.ref a) (.ref b) H Q := by
  refine .inr ⟨_, _, .lst (lst_sq h) d, .lst (lst_sq e) .nil, shaped_list c l, by decide +kernel, ?_⟩
  rw [if_pos rfl]
  cases d with
  | nil => exact q
  | cons _ _ => exact q
/-- like lists -/
theorem ne_list {K : PySem.W.Frag} {H : Hp} {a b : Addr} {xs ys : List V} {ds : List PyData} {Q : VK} (h : SqL K H a xs) (d : DpAll K H xs ds) (h2 : SqL K H b ys) (d2 : DpAll K H ys ds) (c : PyData.canLayAll0 ds = true) (l : PyData.depthAll ds ≤ 4) (q : Q (.bl false) H) : uEq K true (.ref a) (.ref b) H Q := by
  refine .inr ⟨_, _, .lst h d, .lst h2 d2, shaped_list c l, shaped_list c l, ?_⟩
  rw [if_pos rfl, SeqAt.eqv_refl _ (by simp [PyData.canLay0, c])]
  exact q

def cutB (T : Tn) (D : Tab) (cs : List Cl) (w : Wn) : Bool := match w.k with
  | some (false, c) => (D (pIx T.places (placeOf cs c)) (pIx T.places w.l)).isNone
  | _ => false
def freedW (w : Wn) : Wn := { w with p := w.h, k := none }
def cutL (T : Tn) (D : Tab) (cs : List Cl) (ws : List Wn) : List (Str × Str) := ws.filterMap fun w => if cutB T D cs w then some (w.n, callOf w) else none
def behL (T : Tn) (D : Tab) (cs : List Cl) (ws : List Wn) : List Wn := ws.map fun w => if cutB T D cs w then freedW w else w
def PrAt (H : Hp) (x : V) (q : Str × Str) : Prop := ∃ p, x = .ref p ∧ Tup H p [.str q.1, .str q.2]
theorem PrAt.keep {S : List Addr} {H H' : Hp} {x : V} {c : Str × Str} (h : PrAt H x c) (k : Keep S H H') (n : NoT S H) : PrAt H' x c := let ⟨p, e, t⟩ := h; ⟨p, e, t.keep k (n.tup _ _ t)⟩
def CutAt (K : PySem.W.Frag) (H : Hp) (f : Addr) (prs : List (Str × Str)) (ws : List Wn) (l1 l2 : Addr) : Prop :=
  Tup H f [.ref l1, .ref l2] ∧ (∃ v1, H l1 = some (.lst v1) ∧ EI (PrAt H) v1 prs) ∧ ∃ v2, H l2 = some (.lst v2) ∧ EI (WnAt K H) v2 ws
theorem CutAt.keep {K : PySem.W.Frag} {H H' : Hp} {f l1 l2 : Addr} {prs : List (Str × Str)} {ws : List Wn} {S : List Addr} (h : CutAt K H f prs ws l1 l2) (k : Keep S H H') (n : NoT S H) (n1 : l1 ∉ S) (n2 : l2 ∉ S) : CutAt K H' f prs ws l1 l2 := by
  obtain ⟨a, ⟨v1, b1, b2⟩, v2, c1, c2⟩ := h
  exact ⟨a.keep k (n.tup _ _ a), ⟨v1, k _ _ n1 b1, b2.mono fun _ _ q => q.keep k n⟩, v2, k _ _ n2 c1, wns_keep c2 k n⟩
theorem wf_beh {T : Tn} {D : Tab} {cs : List Cl} {ws : List Wn} (h : WF T cs ws) : WF T cs (behL T D cs ws) := by
  have key : ∀ w ∈ behL T D cs ws, ∃ u ∈ ws, w = u ∨ w = freedW u := fun w hw => by
    obtain ⟨u, hu, rfl⟩ := List.mem_map.mp hw
    refine ⟨u, hu, ?_⟩
    split
    · exact .inr rfl
    · exact .inl rfl
  refine ⟨by unfold behL; rw [List.length_map]; exact h.l, fun w hw => ?_, fun w hw => ?_, fun w hw c e => ?_, fun w hw => ?_⟩ <;> obtain ⟨u, hu, rfl | rfl⟩ := key w hw
  · exact h.pl _ hu
  · exact h.pl u hu
  · exact h.k _ hu
  · exact fun b c e => nomatch e
  · exact h.t _ hu c e
  · cases e
  · exact h.nm _ hu
  · obtain ⟨a, b, _, d⟩ := h.nm u hu
    exact ⟨a, b, b, d⟩
theorem cut_beh {T : Tn} {D : Tab} {cs : List Cl} {ws : List Wn} {w : Wn} (h : w ∈ behL T D cs ws) : cutB T D cs w = false := by
  obtain ⟨u, hu, rfl⟩ := List.mem_map.mp h
  by_cases hc : cutB T D cs u = true
  · rw [if_pos hc]
    rfl
  · rw [if_neg hc]
    exact Bool.eq_false_iff.mpr hc
theorem cutL_beh {T : Tn} {D : Tab} {cs : List Cl} {ws : List Wn} : cutL T D cs (behL T D cs ws) = [] := by
  unfold cutL
  rw [List.filterMap_eq_nil_iff]
  intro w hw
  rw [cut_beh hw]
  rfl
theorem behL_beh {T : Tn} {D : Tab} {cs : List Cl} {ws : List Wn} : behL T D cs (behL T D cs ws) = behL T D cs ws := by
  conv => lhs; unfold behL
  conv => rhs; rw [← List.map_id (behL T D cs ws)]
  exact List.map_congr_left fun w hw => by rw [cut_beh hw]; rfl
theorem cutL_next {T : Tn} {D : Tab} {cs : List Cl} {ws : List Wn} {i : Nat} {w : Wn} (h : ws[i]? = some w) : cutL T D cs (ws.take (i + 1)) = cutL T D cs (ws.take i) ++ if cutB T D cs w then [(w.n, callOf w)] else [] := by
  unfold cutL
  rw [List.take_succ, h, List.filterMap_append]
  by_cases hc : cutB T D cs w = true <;> simp [hc]
theorem behL_next {T : Tn} {D : Tab} {cs : List Cl} {ws : List Wn} {i : Nat} {w : Wn} (h : ws[i]? = some w) : behL T D cs (ws.take (i + 1)) = behL T D cs (ws.take i) ++ [if cutB T D cs w then freedW w else w] := by
  unfold behL
  rw [List.take_succ, h, List.map_append]
  rfl
def spFreed (K : PySem.W.Frag) : Sp := fun vs H Q _ => ∃ (x : V) (w : Wn), vs = [x] ∧ WnAt K H x w ∧ ∀ p H', Keep [] H H' → WnAt K H' (.ref p) (freedW w) → Q (.ref p) H'
def spIsCut (K : PySem.W.Frag) : Sp := fun vs H Q _ => ∃ (t c a : Addr) (x : V) (xs : List V) (T : Tn) (D : Tab) (cs : List Cl) (w : Wn), vs = [.ref t, .ref c, x, .ref a] ∧ TnAt H t T ∧ ChAt H c T.places.length D ∧ WnAt K H x w ∧ w.l ∈ T.places ∧ Sq H a xs ∧ EI (ClAt H) xs cs ∧ (∀ c ∈ cs, c.p ∈ T.places) ∧
  (∀ c, tkN w = some c → c ∈ cs.map Cl.n) ∧ ∀ H', Keep [] H H' → Q (.bl (cutB T D cs w)) H'
def spCut (K : PySem.W.Frag) : Sp := fun vs H Q _ => ∃ (t c a b : Addr) (ws' xs : List V) (T : Tn) (D : Tab) (cs : List Cl) (ws : List Wn), vs = [.ref t, .ref c, .ref b, .ref a] ∧ TnAt H t T ∧ ChAt H c T.places.length D ∧ Sq H b ws' ∧ EI (WnAt K H) ws' ws ∧ WF T cs ws ∧ Sq H a xs ∧ EI (ClAt H) xs cs ∧ (∀ c ∈ cs, c.p ∈ T.places) ∧ cs.length ≤ 10 ∧ (cs.map Cl.n).Nodup ∧
  ∀ f H' l1 l2, Keep [] H H' → H l1 = none → H l2 = none → l1 ≠ l2 → CutAt K H' f (cutL T D cs ws) (behL T D cs ws) l1 l2 → Q (.ref f) H'
theorem rd_freed (K : PySem.W.Frag) {aF : Addr} (hF : ∀ H : Hp, SqT K H aF [.str "free"]) : ∀ vs H Q E, spFreed K vs H Q E → run (t_freed K aF) (L2.start N_freed vs) H Q := by
  rintro _ H Q _ ⟨x, w, rfl, ⟨p, tk, rfl, tp, utk⟩, q⟩
  show run (t_freed K aF) [some (.ref p), none, none, none, none, none] H Q
  unfold t_freed
  walk_at "sx"
  refine g_tup tp rfl ?_
  walk_at "sx"
  refine ⟨_, _, rfl, _, _, rfl, _, _, rfl, _, _, rfl, _, _, rfl, _, _, rfl, rfl, ?_⟩
  walk_at "sx"
  refine ⟨by walk_at "sz", fun r H1 n1 k1 t1 => q r H1 k1 ⟨r, aF, rfl, t1, hF H1⟩⟩
theorem rd_isCut (K : PySem.W.Frag) : ∀ vs H Q E, spIsCut K vs H Q E → run (t__is_cut_off K (spNamed K) (spFar K)) (L2.start N__is_cut_off vs) H Q := by
  rintro _ H Q _ ⟨t, c, a, x, xs, T, D, cs, w, rfl, hT, hC, ⟨p, tk, rfl, tp, utk⟩, hl, hq, he, hp, ht, q⟩
  show run (t__is_cut_off K (spNamed K) (spFar K)) [some (.ref t), some (.ref c), some (.ref p), some (.ref a), none] H Q
  have hW : WnAt K H (.ref p) w := ⟨p, tk, rfl, tp, utk⟩
  unfold t__is_cut_off
  walk_at "sx"
  refine g_ixT tp (at_lit 5 rfl rfl) ?_
  unfold cutB at q
  rcases hk : w.k with _ | ⟨_ | _, nm⟩ <;> rw [hk] at q utk
  · refine g_ixK utk (at_lit 0 rfl rfl) (g_ne rfl ?_)
    rw [dec_strV, decide_eq_false (by decide)]
    walk_at "sx"
    exact q H (Keep.refl _ _)
  · refine g_ixK utk (at_lit 0 rfl rfl) (g_ne rfl ?_)
    rw [dec_strV, decide_eq_true rfl]
    walk_at "sx"
    unfold t__is_cut_off_r1
    walk_at "sx"
    obtain ⟨d, hfd, hdm, hdn⟩ := found_of (ht nm (by unfold tkN; rw [hk]; rfl))
    refine g_ixT tp (at_lit 5 rfl rfl) (g_ixK utk (at_lit 1 rfl rfl) (named_cl hq he (fun H1 x d' k1 hf hd => ?_) (fun H1 _ hf => by rw [hfd] at hf; cases hf)))
    obtain ⟨pd, rfl, td⟩ := hd
    refine g_ixT td (at_lit 1 rfl rfl) ?_
    walk_at "sx"
    have e1 : placeOf cs nm = d'.p := by unfold placeOf; rw [hf]; rfl
    refine ⟨t, c, 0, .ref p, d'.p, T, D, w, rfl, hT.keep k1 noTup0, hC.keep k1, hW.keep k1 noT0, hl, hp _ (List.mem_of_find?_eq_some hf), ?_⟩
    walk_at "sx"
    have q' : Q (.bl (D (pIx T.places (placeOf cs nm)) (pIx T.places w.l)).isNone) H1 := q H1 k1
    rw [e1] at q'
    have e2 : decide (mV (farN T D 0 w d'.p) = V.non) = (D (pIx T.places d'.p) (pIx T.places w.l)).isNone := by
      rw [notN]
      unfold farN
      cases D (pIx T.places d'.p) (pIx T.places w.l) <;> rfl
    rw [e2]
    exact q'
  · refine g_ixK utk (at_lit 0 rfl rfl) (g_ne rfl ?_)
    rw [dec_strV, decide_eq_false (by decide)]
    walk_at "sx"
    exact q H (Keep.refl _ _)
theorem rd_cut (K : PySem.W.Frag) : ∀ vs H Q E, spCut K vs H Q E → run (t_cut_off K (spIsCut K) (spFreed K)) (L2.start N_cut_off vs) H Q := by
  rintro _ H Q _ ⟨t, c, a, b, wv, xs, T, D, cs, ws, rfl, hT, hC, hb, ew, wf, hq, he, hp, l10, nd, q⟩
  show run (t_cut_off K (spIsCut K) (spFreed K)) [some (.ref t), some (.ref c), some (.ref b), some (.ref a), none, none, none] H Q
  unfold t_cut_off
  walk_at "sx"
  refine ⟨by walk_at "sz", fun l1 H1 n1 k1 e1 => ?_⟩
  walk_at "sx"
  refine ⟨by walk_at "sz", fun l2 H2 n2 k2 e2 => ?_⟩
  walk_at "sx"
  have k02 := k1.trans k2
  have n2' := k1.free nin0 n2
  have e1' := k2 _ _ nin0 e1
  have ne12 : l1 ≠ l2 := ne_of_none e1 n2
  have nt2 : ∀ {H' : Hp} {v1 v2 : List V}, H' l1 = some (.lst v1) → H' l2 = some (.lst v2) → NoT [l1, l2] H' := fun h1 h2 a ha => by
    rcases List.mem_cons.mp ha with rfl | ha
    · exact .inr ⟨_, h1⟩
    · rw [List.mem_singleton.mp ha]
      exact .inr ⟨_, h2⟩
  have out : ∀ {b o}, H b = some o → b ∉ [l1, l2] := fun e h => by
    rcases List.mem_cons.mp h with rfl | h
    · rw [n1] at e; cases e
    · rw [List.mem_singleton.mp h, n2'] at e; cases e
  have w5 := wf.l
  refine g_FEs (RR := fun H x w => WnAt K H x w) [l1, l2] (hb.keep k02 nin0) (out hb.there.choose_spec) (wns_keep ew k02 noT0) (fun H' x r h k => h.keep k (nt2 e1' e2)) (fun i σ H' => ∃ y, σ = [some (.ref t), some (.ref c), some (.ref b), some (.ref a), some (.ref l1), some (.ref l2), y] ∧
      ∃ v1 v2, H' l1 = some (.lst v1) ∧ EI (PrAt H') v1 (cutL T D cs (ws.take i)) ∧ H' l2 = some (.lst v2) ∧ EI (WnAt K H') v2 (behL T D cs (ws.take i))) ⟨_, rfl, [], [], e1', .nil, e2, .nil⟩ ?_ ?_
  · rintro i x w σ H3 hi k3 hx ⟨y, rfl, v1, v2, f1, g1, f2, g2⟩
    have hwm := List.mem_of_getElem? hi
    have hi5 := (List.getElem?_eq_some_iff.mp hi).1
    have K3 := nt2 e1' e2
    have hT3 := (hT.keep k02 noTup0).keep k3 K3.tup
    have hC3 := (hC.keep k02).keepN k3 K3
    have hq3 := (hq.keep k02 nin0).keep k3 (out hq.there.choose_spec)
    have he3 := cls_keep (cls_keep he k02 noT0) k3 K3
    have lg1 := g1.length
    have lg2 := g2.length
    have lb : (behL T D cs (ws.take i)).length ≤ 5 := by unfold behL; rw [List.length_map, List.length_take]; omega
    have lc : (cutL T D cs (ws.take i)).length ≤ 5 := by
      have := List.length_filterMap_le (fun w => if cutB T D cs w then some (w.n, callOf w) else none) (ws.take i)
      rw [List.length_take] at this
      unfold cutL
      omega
    have hcn := cutL_next (T := T) (D := D) (cs := cs) hi
    have hbn := behL_next (T := T) (D := D) (cs := cs) hi
    walk_at "sx"
    unfold t_cut_off_b1
    walk_at "sx"
    refine ⟨t, c, a, x, xs, T, D, cs, w, rfl, hT3, hC3, hx, wf.pl w hwm, hq3, he3, hp, wf.t w hwm, fun H4 k4 => ?_⟩
    have f1' := k4 _ _ nin0 f1
    have f2' := k4 _ _ nin0 f2
    have hx4 := hx.keep k4 noT0
    have g1' : EI (PrAt H4) v1 _ := g1.mono fun _ _ q => q.keep k4 noT0
    have g2' := wns_keep g2 k4 noT0
    refine ⟨_, rfl, ?_⟩
    by_cases hc : cutB T D cs w = true
    · rw [hc, if_pos rfl] at hcn hbn
      rw [if_pos hc]
      obtain ⟨p, tk, rfl, tp, utk⟩ := hx4
      have hkk : ∃ nm, w.k = some (false, nm) := by
        unfold cutB at hc
        rcases hk : w.k with _ | ⟨_ | _, nm⟩ <;> rw [hk] at hc
        · cases hc
        · exact ⟨nm, rfl⟩
        · cases hc
      obtain ⟨nm, hk⟩ := hkk
      have ec : callOf w = nm := by unfold callOf; rw [hk]
      rw [hk] at utk
      refine ⟨.inl ⟨rfl, _, .inl (.inl f1')⟩, g_ixT tp (at_lit 0 rfl rfl) (g_ixT tp (at_lit 5 rfl rfl) (g_ixK utk (at_lit 1 rfl rfl) ⟨by walk_at "sz", fun r H5 n5 k5 t5 => ?_⟩))⟩
      have f15 := k5 _ _ nin0 f1'
      refine g_append f15 (by exact len_lt (by omega)) fun H6 k6 e6 => ?_
      have n61 : NoT [l1] H5 := noT1 f15
      have f26 := k6 _ _ (nin1 ne12.symm) (k5 _ _ nin0 f2')
      walk_at "sx"
      refine ⟨.inl ⟨rfl, _, .inl (.inl f26)⟩, .ref p, w, rfl, WnAt.keep (WnAt.keep ⟨p, tk, rfl, tp, by rw [hk]; exact utk⟩ k5 noT0) k6 n61, fun r2 H7 k7 hr2 => ?_⟩
      have f27 := k7 _ _ nin0 f26
      have f17 := k7 _ _ nin0 e6
      refine g_append f27 (by exact len_lt (by omega)) fun H8 k8 e8 => ?_
      refine ⟨k3.trans (k4.all.trans (k5.all.trans ((k6.wide fun b hb => by rw [List.mem_singleton.mp hb]; simp).trans (k7.all.trans (k8.wide fun b hb => by rw [List.mem_singleton.mp hb]; simp))))), _, rfl, _, _, k8 _ _ (nin1 ne12) f17, ?_, e8, ?_⟩
      · rw [hcn, ec]
        have n72 : NoT [l2] H7 := noT1 f27
        exact ei_snoc (PrAt.keep (PrAt.keep (PrAt.keep (c := (w.n, nm)) ⟨r, rfl, t5⟩ k6 n61) k7 noT0) k8 n72) (g1'.mono fun _ _ q => (((q.keep k5 noT0).keep k6 n61).keep k7 noT0).keep k8 n72)
      · rw [hbn]
        have n72 : NoT [l2] H7 := noT1 f27
        exact ei_snoc (hr2.keep k8 n72) (wns_keep (wns_keep (wns_keep (wns_keep g2' k5 noT0) k6 n61) k7 noT0) k8 n72)
    · have hc' := Bool.eq_false_iff.mpr hc
      rw [hc', if_neg (by decide)] at hcn hbn
      rw [if_neg hc]
      refine ⟨.inl ⟨rfl, _, .inl (.inl f2')⟩, g_append f2' (by exact len_lt (by omega)) fun H8 k8 e8 => ?_⟩
      have n72 : NoT [l2] H4 := noT1 f2'
      refine ⟨k3.trans (k4.all.trans (k8.wide fun b hb => by rw [List.mem_singleton.mp hb]; simp)), _, rfl, _, _, k8 _ _ (nin1 ne12) f1', ?_, e8, ?_⟩
      · rw [hcn, List.append_nil]
        exact g1'.mono fun _ _ q => q.keep k8 n72
      · rw [hbn]
        exact ei_snoc (hx4.keep k8 n72) (wns_keep g2' k8 n72)
  · rintro σ H3 k3 ⟨y, rfl, v1, v2, f1, g1, f2, g2⟩
    rw [List.take_length] at g1 g2
    unfold t_cut_off_r1
    walk_at "sx"
    refine ⟨by walk_at "sz", fun f H4 n4 k4 t4 => ?_⟩
    refine q f H4 l1 l2 ((k02.pastL k3 fun p hp => ?_).trans k4) n1 n2' ne12 ⟨t4, ⟨v1, k4 _ _ nin0 f1, g1.mono fun _ _ q => q.keep k4 noT0⟩, v2, k4 _ _ nin0 f2, wns_keep g2 k4 noT0⟩
    rcases List.mem_cons.mp hp with rfl | hp
    · exact n1
    · rw [List.mem_singleton.mp hp]
      exact n2'

theorem rd_chosen (K : PySem.W.Frag) {aF : Addr} (hF : ∀ H : Hp, SqT K H aF [.str "free"]) : ∀ vs H Q E, spChosen K vs H Q E → run (t_chosen K (spNamed K) (spMay K) (spFar K) aF) (L2.start N_chosen vs) H Q := by
  rintro _ H Q _ ⟨t, c, b, a, now, nm, T, D, cs, ws, wv, cv, rfl, sc, hm, q⟩
  show run (t_chosen K (spNamed K) (spMay K) (spFar K) aF) [some (.ref t), some (.ref c), some (.int now), some (.ref b), some (.ref a), some (.str nm), none, none, none, none] H Q
  unfold t_chosen
  walk_at "sx"
  obtain ⟨e, hfe, hem, hen⟩ := found_of hm
  have hpl : placeOf cs nm = e.p := by unfold placeOf; rw [hfe]; rfl
  refine named_cl sc.hA sc.a (fun H1 x d' k1 hf hd => ?_) (fun H1 _ hf => by rw [hfe] at hf; cases hf)
  rw [hfe] at hf
  cases hf
  obtain ⟨pd, rfl, td⟩ := hd
  refine g_ixT td (at_lit 1 rfl rfl) ?_
  walk_at "sx"
  refine ⟨by walk_at "sz", fun l H2 n2 k2 e2 => ?_⟩
  walk_at "sx"
  have k02 := k1.trans k2
  have sc2 := sc.keep0 k02
  have n2' := k1.free nin0 n2
  have w5 := sc.wf.l
  have out : ∀ {b o}, H b = some o → b ∉ [l] := fun e h => by
    rw [List.mem_singleton.mp h, n2'] at e; cases e
  refine g_FEs (RR := fun H x w => WnAt K H x w) [l] sc2.hW (out sc.hW.there.choose_spec) sc2.w (fun H' x r h k => h.keep k (noT1 e2)) (fun i σ H' => ∃ y8 y9, σ = [some (.ref t), some (.ref c), some (.int now), some (.ref b), some (.ref a), some (.str nm), some (.str e.p), some (.ref l), y8, y9] ∧
      ∃ v, H' l = some (.lst v) ∧ EI (KtAt H') v (keysL T D now cs nm (ws.take i))) ⟨_, _, rfl, [], e2, .nil⟩ ?_ ?_
  · rintro i x w σ H3 hi k3 hx ⟨y8, y9, rfl, v, f, g⟩
    have hwm := List.mem_of_getElem? hi
    have hi5 := (List.getElem?_eq_some_iff.mp hi).1
    have sc3 := sc2.keep k3 (noT1 e2) (out sc.hW.there.choose_spec) (out sc.hA.there.choose_spec)
    have hlen : v.length ≤ 5 := by
      have := keysL_len (T := T) (D := D) (now := now) (cs := cs) (nm := nm) (ws := ws.take i)
      rw [List.length_take] at this
      rw [g.length]
      omega
    have hkn := keysL_next (T := T) (D := D) (now := now) (cs := cs) (nm := nm) hi
    unfold keyOf at hkn
    rw [hpl] at hkn
    have htk := sc.wf.k w hwm
    walk_at "sx"
    unfold t_chosen_b1
    walk_at "sx"
    refine ⟨a, cv, cs, x, w, nm, rfl, sc3.hA, sc3.a, sc.l, hx, htk, sc.nd, sc.wf.t w hwm, hm, fun H4 k4 => ⟨_, rfl, ?_⟩⟩
    have f4 := k4 _ _ nin0 f
    have g4 : EI (KtAt H4) v _ := g.mono fun _ _ q => q.keep k4 noT0
    by_cases hmay : mayB cs w nm = true
    · rw [if_pos hmay] at hkn ⊢
      have sc4 := sc3.keep0 k4
      have hx4 := hx.keep k4 noT0
      refine ⟨t, c, now, x, e.p, T, D, w, rfl, sc4.hT, sc4.hC, hx4, sc.wf.pl w hwm, sc.cp _ hem, ?_⟩
      walk_at "sx"
      cases ef : farN T D now w e.p with
      | none =>
        rw [ef] at hkn
        rw [if_neg (by show ¬ (!decide (V.non = V.non)) = true; simp)]
        refine ⟨k3.trans k4.all, _, _, rfl, v, f4, ?_⟩
        rw [hkn]
        simpa using g4
      | some m =>
        rw [ef] at hkn
        rw [if_pos (by show (!decide (V.int m = V.non)) = true; simp)]
        obtain ⟨p, tk, rfl, tp, utk⟩ := hx4
        refine ⟨.inl ⟨rfl, _, .inl (.inl f4)⟩, g_ixT tp (at_lit 5 rfl rfl) (eq_free utk htk (hF H4) ⟨_, rfl, ?_⟩)⟩
        have fin : ∀ z : Int, z = (if w.k.isNone then 0 else 1) → uIx K (.ref p) (.int 0) H4 fun x H1 => [mV (some m), .int z, x].length ≤ sizeLine ∧ Mt H1 [mV (some m), .int z, x] fun x H1 => uAppend (.ref l) [x] H1 fun _ H' => Keep [l] H2 H' ∧ ∃ y8 y9, [some (V.ref t), some (.ref c), some (.int now), some (.ref b), some (.ref a), some (.str nm), some (.str e.p), some (.ref l), some (.ref p), some (mV (some m))] = [some (.ref t), some (.ref c), some (.int now), some (.ref b), some (.ref a), some (.str nm), some (.str e.p), some (.ref l), y8, y9] ∧
            ∃ v, H' l = some (.lst v) ∧ EI (KtAt H') v (keysL T D now cs nm (ws.take (i + 1))) := fun z hz => by
          refine g_ixT tp (at_lit 0 rfl rfl) ⟨by walk_at "sz", fun r H5 n5 k5 t5 => ?_⟩
          have f5 := k5 _ _ nin0 f4
          refine g_append f5 (by exact len_lt (by omega)) fun H6 k6 e6 => ⟨k3.trans (k4.all.trans (k5.all.trans k6)), _, _, rfl, _, e6, ?_⟩
          rw [hkn]
          have n5' : NoT [l] H5 := noT1 f5
          exact ei_snoc (r := (m, (if w.k.isNone then 0 else 1), w.n)) ⟨r, rfl, by rw [← hz]; exact t5.keep k6 (n5'.tup _ _ t5)⟩ (g4.mono fun _ _ q => (q.keep k5 noT0).keep k6 n5')
        by_cases hfr : w.k.isNone = true
        · rw [if_pos hfr]
          exact fin 0 (by rw [if_pos hfr])
        · rw [if_neg hfr]
          exact fin 1 (by rw [if_neg hfr])
    · rw [if_neg hmay] at hkn ⊢
      refine ⟨k3.trans k4.all, _, _, rfl, v, f4, ?_⟩
      rw [hkn]
      simpa using g4
  · rintro σ H3 k3 ⟨y8, y9, rfl, v, f, g⟩
    rw [List.take_length] at g
    have k03 : Keep [] H H3 := k02.past k3 n2'
    unfold t_chosen_r1
    walk_at "sx"
    unfold chosenN at q
    cases hks : keysL T D now cs nm ws with
    | nil =>
      rw [hks] at q g
      cases g
      refine ⟨false, g_truL f rfl, ?_⟩
      exact q H3 k03
    | cons k ks =>
      rw [hks] at q g
      refine ⟨true, g_truL f (by cases g; rfl), ?_⟩
      rw [if_pos rfl]
      refine ⟨Ky, KtAt H3, ktD, l, v, k, ks, rfl, lst_sq f, g, fun _ _ => dp_kt, ⟨PySem.W.AllAlike.of alike_kt, fun x hx => ?_⟩, by have := depth_kts (k :: ks); omega, fun x m hm' hmin => ?_⟩
      · obtain ⟨z, _, rfl⟩ := List.mem_map.mp hx
        exact fun z => nomatch z
      · rw [minD_map] at hmin
        have := ktD_inj hmin
        obtain ⟨p, rfl, tp⟩ := hm'
        refine g_ixT tp (at_lit 2 rfl rfl) ?_
        have q' := q H3 k03
        rw [this]
        exact q'
theorem kit_tuple_tuple : kitB "tuple" "tuple" = some true := by decide +kernel
theorem kit_list_list : kitB "list" "list" = some true := by decide +kernel
theorem tk_at1 (fl : Bool) (nm : Str) : atI (tkV (some (fl, nm))) 1 = some (.str nm) := by cases fl <;> rfl
theorem rd_waiting (K : PySem.W.Frag) {aF : Addr} (hF : ∀ H : Hp, SqT K H aF [.str "free"]) : ∀ vs H Q E, spWaiting K vs H Q E → run (t_waiting K aF) (L2.start N_waiting vs) H Q := by
  rintro _ H Q _ ⟨b, a, wv, cv, ws, cs, rfl, hb, ew, wq, ha, ec, cq, q⟩
  show run (t_waiting K aF) [some (.ref b), some (.ref a), none, none, none, none, none, none, none, none] H Q
  unfold t_waiting
  walk_at "sx"
  refine g_CE (RR := fun H x w => WnAt K H x w) hb ew (fun H H' x r h k => h.keep k noT0) (fun i H' acc => acc = ((ws.take i).filterMap tkN).map V.str) (fun _ _ _ _ => rfl) ?_ ?_
  · rintro L i _ w H7 acc R R0 nL hw k7 eL ⟨p, tk, rfl, tp, utk⟩ rfl hR hR0
    have hn := served_next hw
    have hl := served_len (i := i) wq.l
    walk_at "sx"
    refine g_ixT tp (at_lit 5 rfl rfl) (ne_free utk (wq.nm w (List.mem_of_getElem? hw)).2 (hF H7) ⟨_, rfl, ?_⟩)
    rcases hk : w.k with _ | ⟨fl, nm⟩
    · rw [show tkN w = none by unfold tkN; rw [hk]; rfl] at hn
      exact hR0 _ (Keep.refl _ _) (by rw [hn]; simp)
    · rw [show tkN w = some nm by unfold tkN; rw [hk]; rfl] at hn
      rw [hk] at utk
      rw [if_pos (by simp)]
      refine g_ixT tp (at_lit 5 rfl rfl) (g_ixK utk (tk_at1 fl nm) (hR _ _ (Keep.refl _ _) (by rw [List.length_map]; exact len_lt (by omega)) fun H9 k9 => ?_))
      rw [hn, List.map_append]
      rfl
  rintro L H1 acc nL k1 eL rfl
  rw [List.take_length] at eL
  walk_at "sx"
  refine g_CE (RR := ClAt) (ha.keep k1 nin0) (cls_keep ec k1 noT0) (fun H H' x r h k => h.keep k noT0) (fun i H' acc => EI (KtAt H') acc (((cs.take i).filter (openC ws)).map qk)) (fun _ _ _ _ => .nil) ?_ ?_
  · rintro M' i _ c H7 acc R R0 nM hc k7 eM ⟨p', rfl, tp'⟩ hps hR hR0
    have hlen := hps.length
    rw [List.length_map] at hlen
    have hfl := List.length_filter_le (openC ws) (cs.take i)
    rw [List.length_take] at hfl
    have c10 := cq.l
    have htk : (cs.take (i + 1)).filter (openC ws) = (cs.take i).filter (openC ws) ++ if openC ws c then [c] else [] := by
      rw [List.take_succ, hc, List.filter_append]
      show _ ++ [c].filter _ = _
      by_cases h : openC ws c = true <;> simp [h]
    refine g_tup tp' rfl ?_
    unfold clV
    walk_at "sx"
    refine ⟨_, _, rfl, _, _, rfl, _, _, rfl, _, _, rfl, rfl, ?_⟩
    walk_at "sx"
    refine g_notinS (k7 _ _ nin0 eL) ⟨_, rfl, ?_⟩
    show if openC ws c = true then _ else _
    by_cases h : openC ws c = true
    · rw [if_pos h] at htk ⊢
      refine ⟨by walk_at "sz", fun z H8 n8 k8 t8 => hR _ _ k8 (by exact len_lt (by omega)) fun H9 k9 => ?_⟩
      have eM8 := k8 _ _ nin0 eM
      rw [htk, List.map_append]
      exact ei_snoc (r := qk c) ⟨z, rfl, t8.keep k9 (noTup1 eM8 _ _ t8)⟩ (hps.mono fun _ _ q => (q.keep k8 noT0).keep k9 (noT1 eM8))
    · rw [if_neg h, List.append_nil] at htk
      rw [if_neg h]
      exact hR0 _ (Keep.refl _ _) (by rw [htk]; exact hps)
  rintro D H2 acc nD k2 eD hps
  rw [List.take_length] at hps
  refine ⟨Ky, KtAt H2, ktD, D, acc, _, rfl, lst_sq eD, hps, fun _ _ => dp_kt, PySem.W.AllAlike.of alike_kt, PySem.W.Sortable.tuples fun k => ⟨_, _, rfl⟩, fun r _ => depth_kt r, fun ys ly ey r H3 n3 k3 e3 => ?_⟩
  walk_at "sx"
  have hacc := hps.length
  rw [List.length_map] at hacc
  have hfl := List.length_filter_le (openC ws) cs
  have c10 := cq.l
  have ey3 : EI (KtAt H3) ys _ := ey.mono fun _ _ q => q.keep k3 noT0
  refine g_CE (RR := KtAt) (.inl e3) ey3 (fun H H' x r h k => h.keep k noT0) (fun i H' acc => acc = ((((cs.filter (openC ws)).map qk).mergeSort leK).take i).map (fun k => V.str k.2.2)) (fun _ _ _ _ => rfl) ?_ ?_
  · rintro F i _ k H7 acc R R0 nF hk k7 eF ⟨p', rfl, tp'⟩ rfl hR _
    have hm : (((cs.filter (openC ws)).map qk).mergeSort leK).length = ((cs.filter (openC ws)).map qk).length := List.length_mergeSort _
    rw [List.length_map] at hm
    walk_at "sx"
    refine g_ixT tp' (at_lit 2 rfl rfl) (hR _ _ (Keep.refl _ _) (by rw [List.length_map, List.length_take]; exact len_lt (by omega)) fun H9 k9 => ?_)
    rw [List.take_succ, hk, List.map_append]
    rfl
  rintro F H4 acc nF k4 eF rfl
  rw [List.take_length] at eF
  have k03 := k1.trans (k2.trans k3)
  refine q F H4 (k03.free nin0 nF) (k03.trans k4) ?_
  rw [eF]
  unfold waitN M
  rw [List.map_map]
  rfl

theorem ei_map {α β : Type} {R : β → α → Prop} (f : α → β) (h : ∀ x, R (f x) x) : ∀ xs : List α, EI R (xs.map f) xs
  | [] => .nil
  | x :: xs => .cons (h x) (ei_map f h xs)
/-! ### sent in turn -/
structure Snt where
  a : Str
  b : Str
  l : Option Str
structure St where
  ws : List Wn
  lk : List Str
  sn : List Snt
def nextN (cs : List Cl) (ws : List Wn) (lk : List Str) : Option Str := (waitN ws cs).find? fun y => decide (y ∉ lk)
def leftOf (ws : List Wn) (wn : Str) : Option Str := (ws.find? fun w => decide (w.n = wn)).bind tkN
def toW (nm : Str) (w : Wn) : Wn := { w with k := some (false, nm) }
def sendW (wn nm : Str) (ws : List Wn) : List Wn := ws.map fun w => if w.n = wn then toW nm w else w
def stepS (T : Tn) (D : Tab) (now : Int) (cs : List Cl) (nm : Str) (st : St) : St := match chosenN T D now cs st.ws nm with
  | none => ⟨st.ws, st.lk ++ [nm], st.sn⟩
  | some wn => ⟨sendW wn nm st.ws, st.lk ++ [nm], st.sn ++ [⟨nm, wn, leftOf st.ws wn⟩]⟩
def runS (T : Tn) (D : Tab) (now : Int) (cs : List Cl) : Nat → St → St
  | 0, st => st
  | m + 1, st => match nextN cs st.ws st.lk with
    | none => st
    | some nm => runS T D now cs m (stepS T D now cs nm st)
theorem runS_none {T : Tn} {D : Tab} {now : Int} {cs : List Cl} {st : St} (h : nextN cs st.ws st.lk = none) : ∀ m, runS T D now cs m st = st
  | 0 => rfl
  | m + 1 => by unfold runS; rw [h]
theorem runS_some {T : Tn} {D : Tab} {now : Int} {cs : List Cl} {st : St} {nm : Str} (h : nextN cs st.ws st.lk = some nm) (m : Nat) : runS T D now cs (m + 1) st = runS T D now cs m (stepS T D now cs nm st) := by
  conv => lhs; unfold runS
  rw [h]
theorem best_mem : ∀ {l : List Ky} {k : Ky}, bestOf l = some k → k ∈ l := by
  intro l
  cases l with
  | nil => intro k h; cases h
  | cons x l =>
    intro k h
    have h' := Option.some.inj h
    subst h'
    clear h
    induction l generalizing x with
    | nil => exact List.mem_cons_self
    | cons y l ih =>
      rw [List.foldl_cons]
      have := ih (if kLt y x then y else x)
      rcases List.mem_cons.mp this with e | e
      · rw [e]
        split
        · exact List.mem_cons_of_mem _ List.mem_cons_self
        · exact List.mem_cons_self
      · exact List.mem_cons_of_mem _ (List.mem_cons_of_mem _ e)
theorem chosen_mem {T : Tn} {D : Tab} {now : Int} {cs : List Cl} {ws : List Wn} {nm wn : Str} (h : chosenN T D now cs ws nm = some wn) : wn ∈ ws.map Wn.n := by
  unfold chosenN at h
  cases hb : bestOf (keysL T D now cs nm ws) with
  | none => rw [hb] at h; cases h
  | some k =>
    rw [hb] at h
    have e : k.2.2 = wn := Option.some.inj h
    obtain ⟨w, hw, hk⟩ := List.mem_filterMap.mp (best_mem hb)
    unfold keyOf at hk
    split at hk
    · cases hf : farN T D now w (placeOf cs nm) with
      | none => rw [hf] at hk; cases hk
      | some m =>
        rw [hf] at hk
        have := Option.some.inj hk
        rw [← e, ← this]
        exact List.mem_map.mpr ⟨w, hw, rfl⟩
    · cases hk
theorem wait_mem {ws : List Wn} {cs : List Cl} {y : Str} (h : y ∈ waitN ws cs) : y ∈ cs.map Cl.n := by
  unfold waitN M at h
  obtain ⟨k, hk, rfl⟩ := List.mem_map.mp h
  obtain ⟨c, hc, rfl⟩ := List.mem_map.mp ((List.mergeSort_perm _ leK).mem_iff.mp hk)
  exact List.mem_map.mpr ⟨c, (List.mem_filter.mp hc).1, rfl⟩
theorem next_mem {ws : List Wn} {cs : List Cl} {lk : List Str} {y : Str} (h : nextN cs ws lk = some y) : y ∈ cs.map Cl.n ∧ y ∉ lk :=
  ⟨wait_mem (List.mem_of_find?_eq_some h), of_decide_eq_true (by have := List.find?_some h; exact this)⟩
theorem nodup_le {α : Type} [DecidableEq α] : ∀ {l m : List α}, l.Nodup → (∀ x ∈ l, x ∈ m) → l.length ≤ m.length
  | [], _, _, _ => Nat.zero_le _
  | a :: l, m, nd, h => by
    have ha := h a List.mem_cons_self
    have hl : ∀ x ∈ l, x ∈ m.erase a := fun x hx => (List.mem_erase_of_ne fun (e : x = a) => (List.nodup_cons.mp nd).1 (by rw [← e]; exact hx)).mpr (h x (List.mem_cons_of_mem _ hx))
    have := nodup_le (List.nodup_cons.mp nd).2 hl
    rw [List.length_erase_of_mem ha] at this
    have := List.length_pos_of_mem ha
    simp only [List.length_cons]
    omega
theorem sendW_names {wn nm : Str} {ws : List Wn} : (sendW wn nm ws).map Wn.n = ws.map Wn.n := by
  unfold sendW
  rw [List.map_map]
  refine List.map_congr_left fun w _ => ?_
  show (if w.n = wn then toW nm w else w).n = w.n
  split <;> rfl
theorem wf_send {T : Tn} {cs : List Cl} {ws : List Wn} {wn nm : Str} (h : WF T cs ws) (hm : nm ∈ cs.map Cl.n) (ho : NameOk (cl nm)) : WF T cs (sendW wn nm ws) := by
  have key : ∀ w ∈ sendW wn nm ws, ∃ u ∈ ws, w = u ∨ w = toW nm u := fun w hw => by
    obtain ⟨u, hu, rfl⟩ := List.mem_map.mp hw
    refine ⟨u, hu, ?_⟩
    split
    · exact .inr rfl
    · exact .inl rfl
  refine ⟨by unfold sendW; rw [List.length_map]; exact h.l, fun w hw => ?_, fun w hw => ?_, fun w hw c e => ?_, fun w hw => ?_⟩ <;> obtain ⟨u, hu, rfl | rfl⟩ := key w hw
  · exact h.pl _ hu
  · exact h.pl u hu
  · exact h.k _ hu
  · intro b c e
    cases e
    exact ho
  · exact h.t _ hu c e
  · cases e
    exact hm
  · exact h.nm _ hu
  · exact h.nm u hu
structure StOk2 (T : Tn) (cs : List Cl) (st : St) : Prop where
  wf : WF T cs st.ws
  nd : (st.ws.map Wn.n).Nodup
  ld : st.lk.Nodup
  ls : ∀ x ∈ st.lk, x ∈ cs.map Cl.n
  sl : st.sn.length ≤ st.lk.length
  sn : ∀ s ∈ st.sn, NameOk (cl s.a) ∧ NameOk (cl s.b) ∧ ∀ c, s.l = some c → NameOk (cl c)
theorem left_ok {T : Tn} {cs : List Cl} {ws : List Wn} {wn c : Str} (h : WF T cs ws) (e : leftOf ws wn = some c) : NameOk (cl c) := by
  unfold leftOf at e
  cases hf : ws.find? (fun w => decide (w.n = wn)) with
  | none => rw [hf] at e; cases e
  | some w =>
    rw [hf] at e
    have e' : tkN w = some c := e
    unfold tkN at e'
    rcases hk : w.k with _ | ⟨b, x⟩
    · rw [hk] at e'; cases e'
    · rw [hk] at e'
      cases e'
      exact h.k w (List.mem_of_find?_eq_some hf) b x hk
theorem step_ok {T : Tn} {D : Tab} {now : Int} {cs : List Cl} {st : St} {nm : Str} (cq : CQ cs) (h : StOk2 T cs st) (hn : nextN cs st.ws st.lk = some nm) : StOk2 T cs (stepS T D now cs nm st) := by
  obtain ⟨hm, hl⟩ := next_mem hn
  have ho : NameOk (cl nm) := by
    obtain ⟨c, hc, rfl⟩ := List.mem_map.mp hm
    exact (cq.nm c hc).1
  have ld : (st.lk ++ [nm]).Nodup := by
    rw [List.nodup_append]
    exact ⟨h.ld, by simp, fun a ha b hb e => hl (by rw [List.mem_singleton.mp hb] at e; exact e ▸ ha)⟩
  have ls : ∀ x ∈ st.lk ++ [nm], x ∈ cs.map Cl.n := fun x hx => (List.mem_append.mp hx).elim (h.ls x) fun e => by rw [List.mem_singleton.mp e]; exact hm
  have sl := h.sl
  unfold stepS
  cases hc : chosenN T D now cs st.ws nm with
  | none => exact ⟨h.wf, h.nd, ld, ls, by simp; omega, h.sn⟩
  | some wn =>
    refine ⟨wf_send h.wf hm ho, by rw [sendW_names]; exact h.nd, ld, ls, by simp; omega, fun s hs => ?_⟩
    rcases List.mem_append.mp hs with hs | hs
    · exact h.sn s hs
    · rw [List.mem_singleton.mp hs]
      obtain ⟨w, hw, e⟩ := List.mem_map.mp (chosen_mem hc)
      exact ⟨ho, by rw [← e]; exact (h.wf.nm w hw).1, fun c e => left_ok h.wf e⟩
theorem lk_lt {T : Tn} {cs : List Cl} {st : St} {nm : Str} (cq : CQ cs) (h : StOk2 T cs st) (hn : nextN cs st.ws st.lk = some nm) : st.lk.length < 10 := by
  obtain ⟨hm, hl⟩ := next_mem hn
  have ld : (nm :: st.lk).Nodup := List.nodup_cons.mpr ⟨hl, h.ld⟩
  have := nodup_le ld (m := cs.map Cl.n) fun x hx => (List.mem_cons.mp hx).elim (fun e => e ▸ hm) (h.ls x)
  rw [List.length_map, List.length_cons] at this
  have := cq.l
  omega
theorem find_nd {ws : List Wn} (nd : (ws.map Wn.n).Nodup) {w : Wn} (hw : w ∈ ws) : ws.find? (fun u => decide (u.n = w.n)) = some w := by
  induction ws with
  | nil => cases hw
  | cons u ws ih =>
    rw [List.map_cons, List.nodup_cons] at nd
    rw [List.find?_cons]
    rcases List.mem_cons.mp hw with rfl | hw
    · rw [decide_eq_true rfl]
    · have : u.n ≠ w.n := fun e => nd.1 (e ▸ List.mem_map.mpr ⟨w, hw, rfl⟩)
      rw [decide_eq_false this]
      exact ih nd.2 hw
def SnAt (H : Hp) (x : V) (s : Snt) : Prop := ∃ p, x = .ref p ∧ Tup H p [.str s.a, .str s.b, sV s.l]
theorem SnAt.keep {S : List Addr} {H H' : Hp} {x : V} {c : Snt} (h : SnAt H x c) (k : Keep S H H') (n : NoT S H) : SnAt H' x c := let ⟨p, e, t⟩ := h; ⟨p, e, t.keep k (n.tup _ _ t)⟩
def fin (T : Tn) (D : Tab) (now : Int) (cs : List Cl) (ws : List Wn) : St := runS T D now cs 11 ⟨ws, [], []⟩
def spNext (K : PySem.W.Frag) : Sp := fun vs H Q _ => ∃ (b a l : Addr) (wv cv : List V) (ws : List Wn) (cs : List Cl) (lk : List Str), vs = [.ref b, .ref a, .ref l] ∧ Sq H b wv ∧ EI (WnAt K H) wv ws ∧ WQ ws ∧ Sq H a cv ∧ EI (ClAt H) cv cs ∧ CQ cs ∧ H l = some (.lst (lk.map V.str)) ∧
  ∀ H', Keep [] H H' → Q (sV (nextN cs ws lk)) H'
def spCallOf (K : PySem.W.Frag) : Sp := fun vs H Q _ => ∃ (b : Addr) (wv : List V) (ws : List Wn) (wn : Str), vs = [.ref b, .str wn] ∧ Sq H b wv ∧ EI (WnAt K H) wv ws ∧ WQ ws ∧ (ws.map Wn.n).Nodup ∧ wn ∈ ws.map Wn.n ∧ ∀ H', Keep [] H H' → Q (sV (leftOf ws wn)) H'
def spWith (K : PySem.W.Frag) : Sp := fun vs H Q _ => ∃ (x : V) (tk : Addr) (w : Wn) (nm : Str), vs = [x, .ref tk] ∧ WnAt K H x w ∧ Tup H tk [.str "to", .str nm] ∧ ∀ p H', Keep [] H H' → WnAt K H' (.ref p) (toW nm w) → Q (.ref p) H'
def spSend (K : PySem.W.Frag) : Sp := fun vs H Q _ => ∃ (t c b a : Addr) (now : Int) (T : Tn) (D : Tab) (cs : List Cl) (ws : List Wn) (wv cv : List V), vs = [.ref t, .ref c, .int now, .ref b, .ref a] ∧ Sc K H T D cs ws t c b a wv cv ∧ (ws.map Wn.n).Nodup ∧ CQ cs ∧
  ∀ f H' l1 l2 v1 v2, Keep [] H H' → H l1 = none → H l2 = none → l1 ≠ l2 → Tup H' f [.ref l1, .ref l2] → H' l1 = some (.lst v1) → EI (SnAt H') v1 (fin T D now cs ws).sn → H' l2 = some (.lst v2) → EI (WnAt K H') v2 (fin T D now cs ws).ws → Q (.ref f) H'
theorem wq_of {T : Tn} {cs : List Cl} {ws : List Wn} (h : WF T cs ws) : WQ ws := ⟨h.l, fun w hw => ⟨h.nm w hw, h.k w hw⟩⟩
theorem rd_with (K : PySem.W.Frag) : ∀ vs H Q E, spWith K vs H Q E → run (t_with_task K) (L2.start N_with_task vs) H Q := by
  rintro _ H Q _ ⟨x, tk, w, nm, rfl, ⟨p, tk0, rfl, tp, utk⟩, tt, q⟩
  show run (t_with_task K) [some (.ref p), some (.ref tk)] H Q
  unfold t_with_task
  walk_at "sx"
  refine g_slT tp fun a1 H1 k1 t1 => ?_
  have c1 : cutV [V.str w.n, .str w.h, .str w.p, .str w.l, .int w.m, .ref tk0] none (some 5) = [V.str w.n, .str w.h, .str w.p, .str w.l, .int w.m] := rfl
  rw [c1] at t1
  refine ⟨by walk_at "sz", fun a2 H2 n2 k2 t2 => g_addT (t1.keep k2 nin0) t2 (by walk_at "sz") fun r H3 k3 t3 => ?_⟩
  exact q r H3 (k1.trans (k2.trans k3)) ⟨r, tk, rfl, t3, (tt.keep (k1.trans (k2.trans k3)) nin0).sq⟩
theorem rd_next (K : PySem.W.Frag) : ∀ vs H Q E, spNext K vs H Q E → run (t__next_call K (spWaiting K)) (L2.start N__next_call vs) H Q := by
  rintro _ H Q _ ⟨b, a, l, wv, cv, ws, cs, lk, rfl, hb, ew, wq, ha, ec, cq, hl, q⟩
  show run (t__next_call K (spWaiting K)) [some (.ref b), some (.ref a), some (.ref l), none] H Q
  unfold t__next_call
  walk_at "sx"
  refine ⟨b, a, wv, cv, ws, cs, rfl, hb, ew, wq, ha, ec, cq, fun f H1 n1 k1 e1 => ?_⟩
  refine g_FEs (RR := fun H x y => x = V.str y) [] (.inl e1) nin0 (ei_map V.str (fun _ => rfl) _) (fun H' x r h k => h) (fun i σ H' => ∃ y, σ = [some (.ref b), some (.ref a), some (.ref l), y] ∧ ((waitN ws cs).take i).find? (fun y => decide (y ∉ lk)) = none) ⟨_, rfl, rfl⟩ ?_ ?_
  · rintro i _ y σ H2 hi k2 rfl ⟨z, rfl, hn⟩
    walk_at "sx"
    unfold t__next_call_b1
    walk_at "sx"
    refine g_notinS ((k1.trans k2) _ _ nin0 hl) ⟨_, rfl, ?_⟩
    have hsp : waitN ws cs = (waitN ws cs).take i ++ y :: (waitN ws cs).drop (i + 1) := by
      obtain ⟨hlt, e⟩ := List.getElem?_eq_some_iff.mp hi
      rw [← e, List.getElem_cons_drop, List.take_append_drop]
    by_cases h : y ∉ lk
    · rw [decide_eq_true h, if_pos rfl]
      have e : nextN cs ws lk = some y := by
        unfold nextN
        rw [hsp, List.find?_append, hn, List.find?_cons, decide_eq_true h]
        rfl
      have q' := q H2 (k1.trans k2)
      rw [e] at q'
      exact q'
    · rw [decide_eq_false h, if_neg (by decide)]
      refine ⟨k2, _, rfl, ?_⟩
      rw [List.take_succ, hi, List.find?_append, hn]
      simp [h]
  · rintro σ H2 k2 ⟨z, rfl, hn⟩
    rw [List.take_length] at hn
    unfold t__next_call_r1
    walk_at "sx"
    have q' := q H2 (k1.trans k2)
    have e : nextN cs ws lk = none := hn
    rw [e] at q'
    exact q'
theorem rd_callOf (K : PySem.W.Frag) {aF : Addr} (hF : ∀ H : Hp, SqT K H aF [.str "free"]) : ∀ vs H Q E, spCallOf K vs H Q E → run (t__call_of K (spNamed K) aF) (L2.start N__call_of vs) H Q := by
  rintro _ H Q _ ⟨b, wv, ws, wn, rfl, hb, ew, wq, nd, hm, q⟩
  show run (t__call_of K (spNamed K) aF) [some (.ref b), some (.str wn), none] H Q
  unfold t__call_of
  walk_at "sx"
  obtain ⟨w0, hw0, e0⟩ := List.mem_map.mp hm
  have hf0 := find_nd nd hw0
  rw [e0] at hf0
  refine named_wn hb ew (fun H1 x w k1 hf hx => ?_) (fun H1 _ hf => by rw [hf0] at hf; cases hf)
  rw [hf0] at hf
  cases hf
  obtain ⟨p, tk, rfl, tp, utk⟩ := hx
  have hl : leftOf ws wn = tkN w0 := by
    unfold leftOf
    rw [hf0]
    rfl
  have q' := q H1 k1
  rw [hl] at q'
  refine g_ixT tp (at_lit 5 rfl rfl) ?_
  walk_at "sx"
  refine eq_free utk (wq.nm w0 hw0).2 (hF H1) ⟨_, rfl, ?_⟩
  rcases hk : w0.k with _ | ⟨fl, nm⟩
  · rw [if_pos (by simp)]
    rw [show tkN w0 = none by unfold tkN; rw [hk]; rfl] at q'
    exact q'
  · rw [if_neg (by simp)]
    rw [hk] at utk
    rw [show tkN w0 = some nm by unfold tkN; rw [hk]; rfl] at q'
    exact g_ixK utk (tk_at1 fl nm) q'

theorem sn_keep {S : List Addr} {H H' : Hp} {vs : List V} {cs : List Snt} (h : EI (SnAt H) vs cs) (k : Keep S H H') (n : NoT S H) : EI (SnAt H') vs cs := h.mono fun _ _ q => q.keep k n
theorem sV_none (o : Option Str) : decide (sV o = V.non) = o.isNone := by cases o <;> rfl
theorem rd_sendings (K : PySem.W.Frag) : ∀ vs H Q E, spSend K vs H Q E → run (t_sendings K (spNext K) (spChosen K) (spCallOf K) (spWith K)) (L2.start N_sendings vs) H Q := by
  rintro _ H Q _ ⟨t, c, b, a, now, T, D, cs, ws, wv, cv, rfl, sc, nd, cq, q⟩
  show run (t_sendings K (spNext K) (spChosen K) (spCallOf K) (spWith K)) [some (.ref t), some (.ref c), some (.int now), some (.ref b), some (.ref a), none, none, none, none, none, none] H Q
  unfold t_sendings
  walk_at "sx"
  refine ⟨by walk_at "sz", fun l1 H1 n1 k1 e1 => ?_⟩
  walk_at "sx"
  have lists : ∀ {p : Addr} {xs : List V} {Hh : Hp} {Q : VK}, Sq Hh p xs → (∀ l H', Hh l = none → H' l = some (.lst xs) → Keep [] Hh H' → Q (.ref l) H') → uList K [.ref p] Hh Q := fun h q => h.elim (fun h => g_listL h fun l H' n k e => q l H' n e k) fun h => g_listT h fun l H' n k e => q l H' n e k
  refine lists (sc.keep0 k1).hW fun l2 H2 n2 e2 k2 => ?_
  walk_at "sx"
  refine ⟨by walk_at "sz", fun lk H3 n3 k3 e3 => ?_⟩
  walk_at "sx"
  have k03 := k1.trans (k2.trans k3)
  have sc3 := sc.keep0 k03
  have e13 := (k2.trans k3) _ _ nin0 e1
  have e23 := k3 _ _ nin0 e2
  have w0 := wq_of sc.wf
  have nl2 : H l2 = none := k1.free nin0 n2
  have nlk : H lk = none := (k1.trans k2).free nin0 n3
  have ne1k : l1 ≠ lk := ne_of_none (k2 _ _ nin0 e1) n3
  refine ⟨l2, a, lk, wv, cv, ws, cs, [], rfl, .inl e23, sc3.w, w0, sc3.hA, sc3.a, cq, e3, fun H4 k4 => ?_⟩
  walk_at "sx"
  have out : ∀ {x o}, H x = some o → x ∉ [l1, lk] := fun e h => by
    rcases List.mem_cons.mp h with rfl | h
    · rw [n1] at e; cases e
    · rw [List.mem_singleton.mp h, nlk] at e; cases e
  refine ⟨fun m σ H' => ∃ (st : St) (bh : Addr) (bv v1 : List V) (y9 : Option V), σ = [some (.ref t), some (.ref c), some (.int now), some (.ref b), some (.ref a), some (.ref l1), some (.ref bh), some (.ref lk), some (sV (nextN cs st.ws st.lk)), y9, none] ∧ Keep [l1, lk] H4 H' ∧
    H' l1 = some (.lst v1) ∧ EI (SnAt H') v1 st.sn ∧ H' bh = some (.lst bv) ∧ EI (WnAt K H') bv st.ws ∧ H' lk = some (.lst (st.lk.map V.str)) ∧ H bh = none ∧ bh ≠ l1 ∧ bh ≠ lk ∧ m + st.lk.length = 11 ∧ runS T D now cs m st = fin T D now cs ws ∧ StOk2 T cs st,
    ⟨11, ⟨ws, [], []⟩, l2, wv, [], _, rfl, Keep.refl _ _, k4 _ _ nin0 e13, .nil, k4 _ _ nin0 e23, wns_keep sc3.w k4 noT0, k4 _ _ nin0 e3, nl2, (ne_of_none e1 n2).symm, ne_of_none e2 n3, rfl, rfl, sc.wf, nd, List.nodup_nil, fun _ h => (List.not_mem_nil h).elim, Nat.le_refl _, fun _ h => (List.not_mem_nil h).elim⟩, ?_⟩
  rintro m σ H5 ⟨st, bh, bv, v1, y9, rfl, k5, f1, g1, f2, g2, f3, nb, nb1, nbk, hm, hrun, ok⟩
  have K5 : NoT [l1, lk] H5 := fun x hx => by
    rcases List.mem_cons.mp hx with rfl | hx
    · exact .inr ⟨_, f1⟩
    · rw [List.mem_singleton.mp hx]; exact .inr ⟨_, f3⟩
  have K4 : NoT [l1, lk] H4 := fun x hx => by
    rcases List.mem_cons.mp hx with rfl | hx
    · exact .inr ⟨_, k4 _ _ nin0 e13⟩
    · rw [List.mem_singleton.mp hx]; exact .inr ⟨_, k4 _ _ nin0 e3⟩
  have sc5 := (sc3.keep0 k4).keep k5 K4 (out sc.hW.there.choose_spec) (out sc.hA.there.choose_spec)
  have k0_5 : Keep [] H H5 := (k03.trans k4).pastL k5 fun p hp => by
    rcases List.mem_cons.mp hp with rfl | hp
    · exact n1
    · rw [List.mem_singleton.mp hp]; exact nlk
  walk_at "sx"
  cases hnx : nextN cs st.ws st.lk with
  | none =>
    rw [if_neg (by show ¬ (!decide (V.non = V.non)) = true; simp)]
    unfold t_sendings_r2
    walk_at "sx"
    rw [runS_none hnx] at hrun
    rw [← hrun] at q
    refine ⟨by walk_at "sz", fun f H6 n6 k6 t6 => q f H6 l1 bh v1 bv (k0_5.trans k6) n1 nb nb1.symm t6 (k6 _ _ nin0 f1) (sn_keep g1 k6 noT0) (k6 _ _ nin0 f2) (wns_keep g2 k6 noT0)⟩
  | some nm =>
    rw [if_pos (by show (!decide (V.str nm = V.non)) = true; simp)]
    have hlt := lk_lt cq ok hnx
    obtain ⟨m', rfl⟩ : ∃ m', m = m' + 1 := ⟨m - 1, by omega⟩
    rw [runS_some hnx] at hrun
    have ok' := step_ok (D := D) (now := now) cq ok hnx
    obtain ⟨hnm, hnl⟩ := next_mem hnx
    refine ⟨fun σ' H' => ∃ (st : St) (bh : Addr) (bv v1 : List V) (y9 : Option V), σ' = [some (.ref t), some (.ref c), some (.int now), some (.ref b), some (.ref a), some (.ref l1), some (.ref bh), some (.ref lk), some (sV (nextN cs st.ws st.lk)), y9, none] ∧ Keep [l1, lk] H4 H' ∧
      H' l1 = some (.lst v1) ∧ EI (SnAt H') v1 st.sn ∧ H' bh = some (.lst bv) ∧ EI (WnAt K H') bv st.ws ∧ H' lk = some (.lst (st.lk.map V.str)) ∧ H bh = none ∧ bh ≠ l1 ∧ bh ≠ lk ∧ m' + st.lk.length = 11 ∧ runS T D now cs m' st = fin T D now cs ws ∧ StOk2 T cs st, fun σ' H' h => ⟨m', Nat.lt_succ_self _, h⟩, ?_⟩
    walk_at "sx"
    show tyV K "list" (.ref lk) H5 ∧ uAppend (.ref lk) [.str nm] H5 _
    refine ⟨.inl ⟨rfl, _, .inl (.inl f3)⟩, g_append f3 (by rw [List.length_map]; exact len_lt (by omega)) fun H6 k6 e6 => ?_⟩
    have nk : NoT [lk] H5 := noT1 f3
    have wide1 : ∀ {H' H''}, Keep [lk] H' H'' → Keep [l1, lk] H' H'' := fun k => k.wide fun x hx => by rw [List.mem_singleton.mp hx]; simp
    have wide2 : ∀ {H' H''}, Keep [l1] H' H'' → Keep [l1, lk] H' H'' := fun k => k.wide fun x hx => by rw [List.mem_singleton.mp hx]; simp
    have f16 := k6 _ _ (nin1 ne1k) f1
    have f26 := k6 _ _ (nin1 nbk) f2
    have g16 := sn_keep g1 k6 nk
    have g26 := wns_keep g2 k6 nk
    have sc6 := sc5.keep k6 nk (fun h => out sc.hW.there.choose_spec (by rw [List.mem_singleton.mp h]; simp)) (fun h => out sc.hA.there.choose_spec (by rw [List.mem_singleton.mp h]; simp))
    have scb : Sc K H6 T D cs st.ws t c bh a bv cv := ⟨sc6.hT, sc6.hC, .inl f26, g26, ok.wf, sc6.hA, sc6.a, sc6.cp, sc6.l, sc6.nd⟩
    walk_at "sx"
    refine ⟨t, c, bh, a, now, nm, T, D, cs, st.ws, bv, cv, rfl, scb, hnm, fun H7 k7 => ?_⟩
    walk_at "sx"
    have f17 := k7 _ _ nin0 f16
    have f27 := k7 _ _ nin0 f26
    have f37 := k7 _ _ nin0 e6
    have g17 := sn_keep g16 k7 noT0
    have g27 := wns_keep g26 k7 noT0
    have scb7 := scb.keep0 k7
    have lkm : st.lk.map V.str ++ [V.str nm] = (st.lk ++ [nm]).map V.str := by rw [List.map_append]; rfl
    rw [lkm] at f37
    unfold stepS at hrun ok'
    -- the last step of a turn
    have last : ∀ (st' : St) (bh' : Addr) (bv' v' : List V) (y9 : Option V) (H8 : Hp), Keep [l1, lk] H5 H8 → H8 l1 = some (.lst v') → EI (SnAt H8) v' st'.sn → H8 bh' = some (.lst bv') → EI (WnAt K H8) bv' st'.ws → H8 lk = some (.lst (st'.lk.map V.str)) → H bh' = none → bh' ≠ l1 → bh' ≠ lk → m' + st'.lk.length = 11 → runS T D now cs m' st' = fin T D now cs ws → StOk2 T cs st' → Sq H8 a cv → EI (ClAt H8) cv cs →
        t_sendings_r1 K (spNext K) (spChosen K) (spCallOf K) (spWith K) { nx := fun σ' H' => ∃ (st : St) (bh : Addr) (bv v1 : List V) (y9 : Option V), σ' = [some (.ref t), some (.ref c), some (.int now), some (.ref b), some (.ref a), some (.ref l1), some (.ref bh), some (.ref lk), some (sV (nextN cs st.ws st.lk)), y9, none] ∧ Keep [l1, lk] H4 H' ∧ H' l1 = some (.lst v1) ∧ EI (SnAt H') v1 st.sn ∧ H' bh = some (.lst bv) ∧ EI (WnAt K H') bv st.ws ∧ H' lk = some (.lst (st.lk.map V.str)) ∧ H bh = none ∧ bh ≠ l1 ∧ bh ≠ lk ∧ m' + st.lk.length = 11 ∧ runS T D now cs m' st = fin T D now cs ws ∧ StOk2 T cs st, ct := fun σ' H' => ∃ (st : St) (bh : Addr) (bv v1 : List V) (y9 : Option V), σ' = [some (.ref t), some (.ref c), some (.int now), some (.ref b), some (.ref a), some (.ref l1), some (.ref bh), some (.ref lk), some (sV (nextN cs st.ws st.lk)), y9, none] ∧ Keep [l1, lk] H4 H' ∧ H' l1 = some (.lst v1) ∧ EI (SnAt H') v1 st.sn ∧ H' bh = some (.lst bv) ∧ EI (WnAt K H') bv st.ws ∧ H' lk = some (.lst (st.lk.map V.str)) ∧ H bh = none ∧ bh ≠ l1 ∧ bh ≠ lk ∧ m' + st.lk.length = 11 ∧ runS T D now cs m' st = fin T D now cs ws ∧ StOk2 T cs st, bk := t_sendings_r2 K (spNext K) (spChosen K) (spCallOf K) (spWith K) { nx := fun x H' => Q V.non H', rt := Q }, rt := Q }
          [some (.ref t), some (.ref c), some (.int now), some (.ref b), some (.ref a), some (.ref l1), some (.ref bh'), some (.ref lk), some (.str nm), y9, none] H8 := fun st' bh' bv' v' y9 H8 k8 h1 h2 h3 h4 h5 h6 h7 h8 h9 h10 h11 h12 h13 => by
      unfold t_sendings_r1
      walk_at "sx"
      refine ⟨bh', a, lk, bv', cv, st'.ws, cs, st'.lk, rfl, .inl h3, h4, wq_of h11.wf, h12, h13, cq, h5, fun H9 k9 => ?_⟩
      walk_at "sx"
      exact ⟨st', bh', bv', v', _, rfl, k5.trans (k8.trans k9.all), k9 _ _ nin0 h1, sn_keep h2 k9 noT0, k9 _ _ nin0 h3, wns_keep h4 k9 noT0, k9 _ _ nin0 h5, h6, h7, h8, h9, h10, h11⟩
    have k57 : Keep [l1, lk] H5 H7 := (wide1 k6).trans k7.all
    cases hch : chosenN T D now cs st.ws nm with
    | none =>
      rw [hch] at hrun ok'
      rw [if_neg (by show ¬ (!decide (V.non = V.non)) = true; simp)]
      exact last ⟨st.ws, st.lk ++ [nm], st.sn⟩ bh bv v1 _ H7 k57 f17 g17 f27 g27 f37 nb nb1 nbk (by simp; omega) hrun ok' scb7.hA scb7.a
    | some wn =>
      rw [hch] at hrun ok'
      rw [if_pos (by show (!decide (V.str wn = V.non)) = true; simp)]
      refine ⟨.inl ⟨rfl, _, .inl (.inl f17)⟩, ?_⟩
      show spCallOf K [.ref bh, .str wn] H7 _ _
      refine ⟨bh, bv, st.ws, wn, rfl, .inl f27, g27, wq_of ok.wf, ok.nd, chosen_mem hch, fun H8 k8 => ⟨by walk_at "sz", fun r H9 n9 k9 t9 => ?_⟩⟩
      have k79 := k8.trans k9
      have f19 := k79 _ _ nin0 f17
      have lv1 := g1.length
      have sl := ok.sl
      refine g_append f19 (by exact len_lt (by omega)) fun HA kA eA => ?_
      have n9' : NoT [l1] H9 := noT1 f19
      have f2A := kA _ _ (nin1 nb1) (k79 _ _ nin0 f27)
      have f3A := kA _ _ (nin1 ne1k.symm) (k79 _ _ nin0 f37)
      have g2A := wns_keep (wns_keep g27 k79 noT0) kA n9'
      have g1A : EI (SnAt HA) _ (st.sn ++ [⟨nm, wn, leftOf st.ws wn⟩]) := ei_snoc (SnAt.keep (c := ⟨nm, wn, leftOf st.ws wn⟩) ⟨r, rfl, t9⟩ kA n9') (sn_keep (sn_keep g17 k79 noT0) kA n9')
      have hAA := (scb7.keep0 k79).keep kA n9' (fun h => nb1 (List.mem_singleton.mp h)) (fun h => out sc.hA.there.choose_spec (by rw [List.mem_singleton.mp h]; simp))
      walk_at "sx"
      have w5 := ok.wf.l
      refine g_CE (RR := fun H x w => WnAt K H x w) (.inl f2A) g2A (fun H H' x r h k => h.keep k noT0) (fun i H' acc => EI (WnAt K H') acc (sendW wn nm (st.ws.take i))) (fun _ _ _ _ => .nil) ?_ ?_
      · rintro L i x w HB acc R R0 nL hw kB eB hx hps hR _
        have hlen := hps.length
        have hsl : (sendW wn nm (st.ws.take i)).length ≤ 5 := by unfold sendW; rw [List.length_map, List.length_take]; omega
        have hsn : sendW wn nm (st.ws.take (i + 1)) = sendW wn nm (st.ws.take i) ++ [if w.n = wn then toW nm w else w] := by
          unfold sendW
          rw [List.take_succ, hw, List.map_append]
          rfl
        obtain ⟨p, tk, rfl, tp, utk⟩ := id hx
        walk_at "sx"
        refine g_ixT tp (at_lit 0 rfl rfl) ?_
        show uEq K false (.str w.n) (.str wn) HB _
        refine g_eq rfl ⟨_, rfl, ?_⟩
        rw [dec_strV]
        by_cases h : w.n = wn
        · rw [decide_eq_true h, if_pos rfl]
          rw [if_pos h] at hsn
          refine ⟨by walk_at "sz", fun tt HC nC kC tC => ⟨.ref p, tt, w, nm, rfl, hx.keep kC noT0, tC, fun p' HD kD hD => ?_⟩⟩
          have eD := (kC.trans kD) _ _ nin0 eB
          refine hR _ _ (kC.trans kD) (by exact len_lt (by omega)) fun HE kE => ?_
          rw [hsn]
          exact ei_snoc (hD.keep kE (noT1 eD)) (wns_keep (wns_keep hps (kC.trans kD) noT0) kE (noT1 eD))
        · rw [decide_eq_false h, if_neg (by decide)]
          rw [if_neg h] at hsn
          refine hR _ _ (Keep.refl _ _) (by exact len_lt (by omega)) fun HE kE => ?_
          rw [hsn]
          exact ei_snoc (hx.keep kE (noT1 eB)) (wns_keep hps kE (noT1 eB))
      rintro bh' HB acc nbh kB eB hps
      rw [List.take_length] at hps
      walk_at "sx"
      have k5A : Keep [l1, lk] H5 HA := k57.trans (k79.all.trans (wide2 kA))
      have nbh0 : H bh' = none := by
        cases hh : H bh' with
        | none => rfl
        | some o =>
          have h5 := k0_5 _ _ nin0 hh
          have hA' := k5A _ _ (out hh) h5
          rw [nbh] at hA'
          cases hA'
      have ne1' : bh' ≠ l1 := (ne_of_none eA nbh).symm
      have nek' : bh' ≠ lk := (ne_of_none f3A nbh).symm
      exact last ⟨sendW wn nm st.ws, st.lk ++ [nm], st.sn ++ [⟨nm, wn, leftOf st.ws wn⟩]⟩ bh' acc _ _ HB (k5A.trans kB.all) (kB _ _ nin0 eA) (sn_keep g1A kB noT0) eB hps (kB _ _ nin0 f3A) nbh0 ne1' nek' (by simp; omega) hrun ok' (hAA.hA.keep kB nin0) (cls_keep hAA.a kB noT0)

def lkD (lk : List Str) : List (Key × V) := lk.map fun s => (Sum.inr s, V.bl true)
theorem lk_get (s : Str) : ∀ lk : List Str, (valV (lkD lk) (Sum.inr s)).isSome = decide (s ∈ lk)
  | [] => rfl
  | x :: lk => by
    have ih := lk_get s lk
    unfold valV lkD at ih ⊢
    rw [List.map_cons, List.find?_cons]
    by_cases h : x = s
    · rw [decide_eq_true (show (Sum.inr x : Key) = Sum.inr s by rw [h])]
      rw [decide_eq_true (by rw [h]; exact List.mem_cons_self)]
      rfl
    · rw [decide_eq_false (show ¬ (Sum.inr x : Key) = Sum.inr s from fun z => h (by injection z))]
      have e : decide (s ∈ x :: lk) = decide (s ∈ lk) := by
        rw [decide_eq_decide, List.mem_cons]
        exact ⟨fun z => z.resolve_left fun e => h e.symm, .inr⟩
      rw [e]
      exact ih
theorem lk_put {lk : List Str} {s : Str} (h : s ∉ lk) : putK (lkD lk) (Sum.inr s) (.bl true) = lkD (lk ++ [s]) := by
  unfold putK
  have hk : ((lkD lk).any fun kv => decide (kv.1 = Sum.inr s)) = false := by
    rw [List.any_eq_false]
    intro x hx hq
    obtain ⟨y, hy, rfl⟩ := List.mem_map.mp hx
    have := of_decide_eq_true hq
    exact h (by injection this with e; exact e ▸ hy)
  rw [hk]
  unfold lkD
  rw [List.map_append]
  rfl
theorem sqt_keepD {K : PySem.W.Frag} {H H' : Hp} {d a : Addr} {kvs : List (Key × V)} {xs : List V} (h : SqT K H a xs) (e : H d = some (.dK kvs)) (k : Keep [d] H H') : SqT K H' a xs := by
  have na : ∀ {o : HO}, H a = some o → (∀ ys, o ≠ .dK ys) → a ∉ [d] := fun e' ne hm => by
    rw [List.mem_singleton.mp hm, e] at e'
    cases e'
    exact ne _ rfl
  rcases h with (h | ⟨o, h⟩) | h
  · exact .inl (.inl (k _ _ (na h fun ys z => nomatch z) h))
  · exact .inl (.inr ⟨o, k _ _ (na h fun ys z => nomatch z) h⟩)
  · exact .inr h
theorem wns_keepD {K : PySem.W.Frag} {H H' : Hp} {d : Addr} {kvs : List (Key × V)} {vs : List V} {ws : List Wn} (h : EI (WnAt K H) vs ws) (e : H d = some (.dK kvs)) (k : Keep [d] H H') : EI (WnAt K H') vs ws :=
  h.mono fun _ _ ⟨p, tk, ex, t, u⟩ => ⟨p, tk, ex, t.keep k (nin1 (t.neD e)), sqt_keepD u e k⟩
theorem sn_keepD {H H' : Hp} {d : Addr} {kvs : List (Key × V)} {vs : List V} {ss : List Snt} (h : EI (SnAt H) vs ss) (e : H d = some (.dK kvs)) (k : Keep [d] H H') : EI (SnAt H') vs ss :=
  h.mono fun _ _ ⟨p, ex, t⟩ => ⟨p, ex, t.keep k (nin1 (t.neD e))⟩
structure LS (K : PySem.W.Frag) (T : Tn) (cs : List Cl) (H3 : Hp) (l1 l2 d : Addr) (st : St) (H : Hp) : Prop where
  kp : Keep [l1, l2, d] H3 H
  s1 : ∃ v, H l1 = some (.lst v) ∧ EI (SnAt H) v st.sn
  s2 : ∃ v, H l2 = some (.lst v) ∧ EI (WnAt K H) v st.ws
  s3 : H d = some (.dK (lkD st.lk))
  ok : StOk2 T cs st
theorem LS.keep0 {K : PySem.W.Frag} {T : Tn} {cs : List Cl} {H3 : Hp} {l1 l2 d : Addr} {st : St} {H H' : Hp} (h : LS K T cs H3 l1 l2 d st H) (k : Keep [] H H') : LS K T cs H3 l1 l2 d st H' :=
  ⟨h.kp.trans k.all, let ⟨v, a, b⟩ := h.s1; ⟨v, k _ _ nin0 a, sn_keep b k noT0⟩, let ⟨v, a, b⟩ := h.s2; ⟨v, k _ _ nin0 a, wns_keep b k noT0⟩, k _ _ nin0 h.s3, h.ok⟩
def pwK (o : Option Str) (nm : Str) (ws : List Wn) (k : Nat) : List Wn := match o with
  | none => ws
  | some wn => sendW wn nm (ws.take k) ++ ws.drop k
def psK (o : Option Str) (nm : Str) (ws : List Wn) (sn : List Snt) (k : Nat) : List Snt := match o with
  | none => sn
  | some wn => if wn ∈ (ws.take k).map Wn.n then sn ++ [⟨nm, wn, leftOf ws wn⟩] else sn
theorem drop_cons {α : Type} {l : List α} {k : Nat} {x : α} (h : l[k]? = some x) : l.drop k = x :: l.drop (k + 1) := by
  obtain ⟨hk, e⟩ := List.getElem?_eq_some_iff.mp h
  rw [← e, List.getElem_cons_drop]
theorem sendW_len {wn nm : Str} {ws : List Wn} : (sendW wn nm ws).length = ws.length := by unfold sendW; rw [List.length_map]
theorem pw_len {o : Option Str} {nm : Str} {ws : List Wn} {k : Nat} : (pwK o nm ws k).length = ws.length := by
  unfold pwK
  cases o with
  | none => rfl
  | some wn => simp only [List.length_append, sendW_len, List.length_take, List.length_drop]; omega
theorem pw_get {o : Option Str} {nm : Str} {ws : List Wn} {k : Nat} {w : Wn} (h : ws[k]? = some w) : (pwK o nm ws k)[k]? = some w := by
  have hk := (List.getElem?_eq_some_iff.mp h).1
  unfold pwK
  cases o with
  | none => exact h
  | some wn =>
    show (sendW wn nm (ws.take k) ++ ws.drop k)[k]? = some w
    rw [List.getElem?_append_right (by rw [sendW_len, List.length_take]; omega), sendW_len, List.length_take, drop_cons h, Nat.min_eq_left (by omega), Nat.sub_self]
    rfl
theorem pw_next {o : Option Str} {nm : Str} {ws : List Wn} {k : Nat} {w : Wn} (h : ws[k]? = some w) : pwK o nm ws (k + 1) = match o with
    | none => pwK o nm ws k
    | some wn => if w.n = wn then (pwK o nm ws k).set k (toW nm w) else pwK o nm ws k := by
  have hk := (List.getElem?_eq_some_iff.mp h).1
  cases o with
  | none => rfl
  | some wn =>
    have e1 : sendW wn nm (ws.take (k + 1)) = sendW wn nm (ws.take k) ++ [if w.n = wn then toW nm w else w] := by
      unfold sendW
      rw [List.take_succ, h, List.map_append]
      rfl
    have el : (sendW wn nm (ws.take k)).length = k := by rw [sendW_len, List.length_take]; omega
    show sendW wn nm (ws.take (k + 1)) ++ ws.drop (k + 1) = if w.n = wn then (sendW wn nm (ws.take k) ++ ws.drop k).set k (toW nm w) else sendW wn nm (ws.take k) ++ ws.drop k
    rw [e1, drop_cons h, List.append_assoc]
    by_cases hw : w.n = wn
    · rw [if_pos hw, if_pos hw, List.set_append_right _ _ (by omega), el, Nat.sub_self]
      rfl
    · rw [if_neg hw, if_neg hw]
      rfl
theorem ps_next {o : Option Str} {nm : Str} {ws : List Wn} {sn : List Snt} {k : Nat} {w : Wn} (nd : (ws.map Wn.n).Nodup) (h : ws[k]? = some w) : psK o nm ws sn (k + 1) = match o with
    | none => sn
    | some wn => if w.n = wn then psK o nm ws sn k ++ [⟨nm, wn, tkN w⟩] else psK o nm ws sn k := by
  have hm := List.mem_of_getElem? h
  cases o with
  | none => rfl
  | some wn =>
    show (if wn ∈ (ws.take (k + 1)).map Wn.n then _ else _) = if w.n = wn then (if wn ∈ (ws.take k).map Wn.n then _ else _) ++ _ else if wn ∈ (ws.take k).map Wn.n then _ else _
    have e1 : (ws.take (k + 1)).map Wn.n = (ws.take k).map Wn.n ++ [w.n] := by rw [List.take_succ, h, List.map_append]; rfl
    rw [e1]
    by_cases hw : w.n = wn
    · have hno : wn ∉ (ws.take k).map Wn.n := fun hc => by
        have e2 : ws.map Wn.n = (ws.take k).map Wn.n ++ (ws.drop k).map Wn.n := by rw [← List.map_append, List.take_append_drop]
        rw [e2, List.nodup_append] at nd
        refine nd.2.2 wn hc wn ?_ rfl
        rw [drop_cons h]
        exact List.mem_map.mpr ⟨w, List.mem_cons_self, hw⟩
      have hl : leftOf ws wn = tkN w := by
        unfold leftOf
        rw [← hw, find_nd nd hm]
        rfl
      rw [if_pos hw, if_neg hno, if_pos (by rw [hw]; simp), hl]
    · rw [if_neg hw]
      have : wn ∈ (ws.take k).map Wn.n ++ [w.n] ↔ wn ∈ (ws.take k).map Wn.n := by
        rw [List.mem_append, List.mem_singleton]
        exact ⟨fun z => z.resolve_right fun e => hw e.symm, .inl⟩
      simp only [this]
def oD : Option Str → PyData
  | none => .none
  | some c => .str c
def snD (s : Snt) : PyData := .tuple [.str s.a, .str s.b, oD s.l]
theorem dp_oV {K : PySem.W.Frag} {H : Hp} : ∀ o : Option Str, Dp K H (sV o) (oD o)
  | none => .non
  | some c => .str c
theorem dp_sns {K : PySem.W.Frag} {H : Hp} : ∀ {vs : List V} {ss : List Snt}, EI (SnAt H) vs ss → DpAll K H vs (ss.map snD)
  | _, _, .nil => .nil
  | _, _, .cons ⟨_, e, t⟩ q => by
    subst e
    exact .cons (.tup t.sq (.cons (.str _) (.cons (.str _) (.cons (dp_oV _) .nil)))) (dp_sns q)
theorem lay_sns : ∀ {ss : List Snt}, (∀ s ∈ ss, NameOk (cl s.a) ∧ NameOk (cl s.b) ∧ ∀ c, s.l = some c → NameOk (cl c)) → PyData.canLayAll0 (ss.map snD) = true ∧ PyData.depthAll (ss.map snD) ≤ 4
  | [], _ => by simp [PyData.canLayAll0, PyData.depthAll]
  | c :: cs, h => by
    obtain ⟨h1, h2⟩ := lay_sns fun d hd => h d (List.mem_cons_of_mem _ hd)
    obtain ⟨n1, n2, n3⟩ := h c List.mem_cons_self
    have e1 := name_ok n1
    have e2 := name_ok n2
    have e3 : (oD c.l).canLay0 = true ∧ (oD c.l).depth = 0 := by
      cases hl : c.l with
      | none => exact ⟨rfl, by simp [oD, PyData.depth]⟩
      | some x => exact ⟨by have := name_ok (n3 x hl); simp [oD, PyData.canLay0, this], by simp [oD, PyData.depth]⟩
    obtain ⟨e3, e4⟩ := e3
    simp [PyData.canLayAll0, PyData.depthAll, snD, PyData.canLay0, PyData.depth, e1, e2, e3, e4, h1] at *
    omega
theorem run_ok {T : Tn} {D : Tab} {now : Int} {cs : List Cl} (cq : CQ cs) : ∀ (m : Nat) {st : St}, StOk2 T cs st → StOk2 T cs (runS T D now cs m st)
  | 0, _, h => h
  | m + 1, st, h => by
    cases hn : nextN cs st.ws st.lk with
    | none => rw [runS_none hn]; exact h
    | some nm => rw [runS_some hn]; exact run_ok cq m (step_ok cq h hn)
theorem fin_ok {T : Tn} {D : Tab} {now : Int} {cs : List Cl} {ws : List Wn} (cq : CQ cs) (wf : WF T cs ws) (nd : (ws.map Wn.n).Nodup) : StOk2 T cs (fin T D now cs ws) :=
  run_ok cq 11 ⟨wf, nd, List.nodup_nil, fun _ h => (List.not_mem_nil h).elim, Nat.le_refl _, fun _ h => (List.not_mem_nil h).elim⟩
structure SdAt (K : PySem.W.Frag) (H : Hp) (f l1 l2 : Addr) (st : St) : Prop where
  t : Tup H f [.ref l1, .ref l2]
  s1 : ∃ v, H l1 = some (.lst v) ∧ EI (SnAt H) v st.sn
  s2 : ∃ v, H l2 = some (.lst v) ∧ EI (WnAt K H) v st.ws
theorem SdAt.keep0 {K : PySem.W.Frag} {H H' : Hp} {f l1 l2 : Addr} {st : St} (h : SdAt K H f l1 l2 st) (k : Keep [] H H') : SdAt K H' f l1 l2 st :=
  ⟨h.t.keep k nin0, let ⟨v, a, b⟩ := h.s1; ⟨v, k _ _ nin0 a, sn_keep b k noT0⟩, let ⟨v, a, b⟩ := h.s2; ⟨v, k _ _ nin0 a, wns_keep b k noT0⟩⟩
theorem dp_sd {K : PySem.W.Frag} {H : Hp} {f l1 l2 : Addr} {st : St} (h : SdAt K H f l1 l2 st) : Dp K H (.ref f) (.tuple [.list (st.sn.map snD), .list (st.ws.map wnD)]) := by
  obtain ⟨t, ⟨v, a, b⟩, w, c, d⟩ := h
  exact .tup t.sq (.cons (.lst (lst_sq a) (dp_sns b)) (.cons (.lst (lst_sq c) (dp_wns d)) .nil))
theorem sc_cs {T : Tn} {now : Int} {cs : List Cl} (ok : TnOk T) (c : CsOk T now cs) : PyData.canLayAll0 (cs.map clD) = true ∧ PyData.depthAll (cs.map clD) ≤ 4 := by
  obtain ⟨u1, u2⟩ := lay_cls (cs := cs) fun d hd => ⟨c.nm d hd, ok.nm _ (c.p d hd)⟩
  exact ⟨u1, by omega⟩

theorem kLt_fst {a b : Ky} (h : a.1 < b.1) : kLt a b = true := by
  obtain ⟨a1, a2, a3⟩ := a
  obtain ⟨b1, b2, b3⟩ := b
  have h' : a1 < b1 := h
  have hne : (Sum.inl a1 : Int ⊕ List Nat) ≠ Sum.inl b1 := fun e => by cases e; omega
  show PyProof.Rows.lexLt PyProof.Rows.itemOrd ([.inl 1] ++ (.inl a1 :: _)) ([.inl 1] ++ (.inl b1 :: _)) = true
  rw [PySem.W.lex_pre, PyProof.Rows.lex_diff hne]
  exact decide_eq_true h'
theorem M_sorted {ks : List Ky} : (ks.mergeSort leK).Pairwise fun a b => a.1 ≤ b.1 :=
  (PySem.W.sort_pairwise leK_total ks).imp fun {a b} h => by
    have := leK_iff.mp h
    by_cases e : b.1 < a.1
    · rw [kLt_fst e] at this; cases this
    · omega
/-- a wagon may be sent and has a way -/
def okS (T : Tn) (D : Tab) (cs : List Cl) (w : Wn) (c : Str) : Prop := mayB cs w c = true ∧ D (pIx T.places (placeOf cs c)) (pIx T.places w.l) ≠ none
theorem keyOf_some {T : Tn} {D : Tab} {now : Int} {cs : List Cl} {c : Str} {w : Wn} : (∃ k, keyOf T D now cs c w = some k) ↔ okS T D cs w c := by
  unfold keyOf okS farN
  by_cases h : mayB cs w c = true
  · rw [if_pos h]
    cases D (pIx T.places (placeOf cs c)) (pIx T.places w.l) <;> simp [h]
  · rw [if_neg h]
    simp [h]
theorem keyOf_n {T : Tn} {D : Tab} {now : Int} {cs : List Cl} {c : Str} {w : Wn} {k : Ky} (h : keyOf T D now cs c w = some k) : k.2.2 = w.n := by
  unfold keyOf at h
  split at h
  · cases hf : farN T D now w (placeOf cs c) with
    | none => rw [hf] at h; cases h
    | some m => rw [hf] at h; rw [← Option.some.inj h]
  · cases h
theorem chosen_none {T : Tn} {D : Tab} {now : Int} {cs : List Cl} {ws : List Wn} {c : Str} : chosenN T D now cs ws c = none ↔ ∀ w ∈ ws, ¬ okS T D cs w c := by
  constructor
  · intro h w hw ho
    obtain ⟨k, hk⟩ := (keyOf_some (now := now)).mpr ho
    have hm : k ∈ keysL T D now cs c ws := List.mem_filterMap.mpr ⟨w, hw, hk⟩
    unfold chosenN at h
    cases hl : keysL T D now cs c ws with
    | nil => rw [hl] at hm; cases hm
    | cons x l => rw [hl] at h; cases h
  · intro h
    have : keysL T D now cs c ws = [] := by
      unfold keysL
      rw [List.filterMap_eq_nil_iff]
      intro w hw
      cases hk : keyOf T D now cs c w with
      | none => rfl
      | some k => exact absurd (keyOf_some.mp ⟨k, hk⟩) (h w hw)
    unfold chosenN
    rw [this]
    rfl
theorem chosen_some {T : Tn} {D : Tab} {now : Int} {cs : List Cl} {ws : List Wn} {c wn : Str} (h : chosenN T D now cs ws c = some wn) : ∃ w ∈ ws, w.n = wn ∧ okS T D cs w c := by
  unfold chosenN at h
  cases hb : bestOf (keysL T D now cs c ws) with
  | none => rw [hb] at h; cases h
  | some k =>
    rw [hb] at h
    obtain ⟨w, hw, hk⟩ := List.mem_filterMap.mp (best_mem hb)
    exact ⟨w, hw, (keyOf_n hk).symm.trans (Option.some.inj h), keyOf_some.mp ⟨k, hk⟩⟩
theorem wait_iff {ws : List Wn} {cs : List Cl} {y : Str} : y ∈ waitN ws cs ↔ y ∈ cs.map Cl.n ∧ y ∉ ws.filterMap tkN := by
  unfold waitN M
  constructor
  · intro h
    obtain ⟨k, hk, rfl⟩ := List.mem_map.mp h
    obtain ⟨c, hc, rfl⟩ := List.mem_map.mp ((List.mergeSort_perm _ leK).mem_iff.mp hk)
    obtain ⟨h1, h2⟩ := List.mem_filter.mp hc
    exact ⟨List.mem_map.mpr ⟨c, h1, rfl⟩, of_decide_eq_true h2⟩
  · rintro ⟨h1, h2⟩
    obtain ⟨c, hc, rfl⟩ := List.mem_map.mp h1
    exact List.mem_map.mpr ⟨qk c, (List.mergeSort_perm _ leK).mem_iff.mpr (List.mem_map.mpr ⟨c, List.mem_filter.mpr ⟨hc, decide_eq_true h2⟩, rfl⟩), rfl⟩
theorem grade_of {cs : List Cl} (nd : (cs.map Cl.n).Nodup) {c : Cl} (hc : c ∈ cs) : gradeOf cs c.n = c.g := by
  obtain ⟨d, hf, hd, e⟩ := found_of (List.mem_map.mpr ⟨c, hc, rfl⟩ : c.n ∈ cs.map Cl.n)
  have : d = c := by
    obtain ⟨i, hi, e1⟩ := List.getElem_of_mem hd
    obtain ⟨j, hj, e2⟩ := List.getElem_of_mem hc
    have : i = j := (List.getElem_inj nd (h₀ := by rwa [List.length_map]) (h₁ := by rwa [List.length_map])).mp (by rw [List.getElem_map, List.getElem_map, e1, e2, e])
    subst this
    exact e1.symm.trans e2
  unfold gradeOf
  rw [hf, this]
  rfl
theorem wait_sorted {ws : List Wn} {cs : List Cl} (nd : (cs.map Cl.n).Nodup) : (waitN ws cs).Pairwise fun a b => gradeOf cs a ≤ gradeOf cs b := by
  unfold waitN M
  rw [List.pairwise_map]
  refine List.Pairwise.imp_of_mem (fun {a b} ha hb h => ?_) M_sorted
  have key : ∀ k, k ∈ ((cs.filter (openC ws)).map qk).mergeSort leK → gradeOf cs k.2.2 = k.1 := fun k hk => by
    obtain ⟨c, hc, rfl⟩ := List.mem_map.mp ((List.mergeSort_perm _ leK).mem_iff.mp hk)
    exact grade_of nd (List.mem_filter.mp hc).1
  rw [key a ha, key b hb]
  exact h
theorem find_first {α : Type} {R : α → α → Prop} {p : α → Bool} {x : α} : ∀ {l : List α}, l.Pairwise R → l.find? p = some x → ∀ y ∈ l, p y = true → y = x ∨ R x y
  | [], _, h, _, _, _ => by cases h
  | a :: l, hs, h, y, hy, py => by
    obtain ⟨h1, h2⟩ := List.pairwise_cons.mp hs
    rw [List.find?_cons] at h
    cases hp : p a with
    | true =>
      rw [hp] at h
      have e : a = x := Option.some.inj h
      subst e
      rcases List.mem_cons.mp hy with e | hy
      · exact .inl e
      · exact .inr (h1 y hy)
    | false =>
      rw [hp] at h
      rcases List.mem_cons.mp hy with e | hy
      · rw [e, hp] at py; cases py
      · exact find_first h2 h y hy py
/-- what holds while calls are sent to -/
structure Rst (T : Tn) (D : Tab) (cs : List Cl) (st : St) : Prop where
  i1 : ∀ c ∈ st.lk, c ∈ waitN st.ws cs → ∀ w ∈ st.ws, ¬ okS T D cs w c
  i2 : ∀ c ∈ st.lk, ∀ u ∈ waitN st.ws cs, u ∉ st.lk → gradeOf cs c ≤ gradeOf cs u
  way : ∀ w ∈ st.ws, ∀ c, w.k = some (false, c) → D (pIx T.places (placeOf cs c)) (pIx T.places w.l) ≠ none
theorem rst_step {T : Tn} {D : Tab} {now : Int} {cs : List Cl} {st : St} {nm : Str} (cnd : (cs.map Cl.n).Nodup) (nd : (st.ws.map Wn.n).Nodup) (r : Rst T D cs st) (hn : nextN cs st.ws st.lk = some nm) : Rst T D cs (stepS T D now cs nm st) := by
  obtain ⟨hm, hl⟩ := next_mem hn
  have hw := List.mem_of_find?_eq_some hn
  have first : ∀ u ∈ waitN st.ws cs, u ∉ st.lk → u = nm ∨ gradeOf cs nm ≤ gradeOf cs u := fun u hu hul => find_first (wait_sorted cnd) hn u hu (decide_eq_true hul)
  have first' : ∀ u ∈ waitN st.ws cs, u ∉ st.lk → gradeOf cs nm ≤ gradeOf cs u := fun u hu hul => (first u hu hul).elim (fun e => by rw [e]; exact Int.le_refl _) id
  unfold stepS
  cases hc : chosenN T D now cs st.ws nm with
  | none =>
    have no := chosen_none.mp hc
    refine ⟨fun c h hcw w hww => ?_, fun c h u hu hul => ?_, r.way⟩
    · rcases List.mem_append.mp h with h | h
      · exact r.i1 c h hcw w hww
      · rw [List.mem_singleton.mp h]; exact no w hww
    · have hul' : u ∉ st.lk := fun z => hul (List.mem_append_left _ z)
      rcases List.mem_append.mp h with h | h
      · exact r.i2 c h u hu hul'
      · rw [List.mem_singleton.mp h]; exact first' u hu hul'
  | some wn =>
    obtain ⟨w0, hw0, hwn, ho⟩ := chosen_some hc
    have uniq : ∀ w ∈ st.ws, w.n = wn → w = w0 := fun w hww e => by
      have f1 := find_nd nd hww
      have f2 := find_nd nd hw0
      rw [e, ← hwn, f2] at f1
      exact (Option.some.inj f1).symm
    have mem' : ∀ w ∈ sendW wn nm st.ws, (w ∈ st.ws ∧ w.n ≠ wn) ∨ w = toW nm w0 := fun w h => by
      obtain ⟨u, hu, rfl⟩ := List.mem_map.mp h
      by_cases e : u.n = wn
      · rw [if_pos e, uniq u hu e]; exact .inr rfl
      · rw [if_neg e]; exact .inl ⟨hu, e⟩
    have memB : ∀ w ∈ st.ws, w.n ≠ wn → w ∈ sendW wn nm st.ws := fun w h e => List.mem_map.mpr ⟨w, h, if_neg e⟩
    have mem0 : toW nm w0 ∈ sendW wn nm st.ws := List.mem_map.mpr ⟨w0, hw0, if_pos hwn⟩
    have served : nm ∈ (sendW wn nm st.ws).filterMap tkN := List.mem_filterMap.mpr ⟨_, mem0, rfl⟩
    -- who waits behind it waited ahead, or was left
    have back : ∀ u ∈ waitN (sendW wn nm st.ws) cs, u ≠ nm ∧ (u ∈ waitN st.ws cs ∨ w0.k = some (false, u) ∧ gradeOf cs nm < gradeOf cs u) := fun u hu => by
      obtain ⟨h1, h2⟩ := wait_iff.mp hu
      refine ⟨fun e => h2 (e ▸ served), ?_⟩
      by_cases hs : u ∈ st.ws.filterMap tkN
      · obtain ⟨w, hww, ht⟩ := List.mem_filterMap.mp hs
        by_cases e : w.n = wn
        · have e0 := uniq w hww e
          subst e0
          right
          have hmay := ho.1
          unfold tkN at ht
          unfold mayB at hmay
          cases hk : w.k with
          | none => rw [hk] at ht; cases ht
          | some q =>
            obtain ⟨b, c⟩ := q
            rw [hk] at ht hmay
            cases b with
            | true => cases hmay
            | false =>
              have : c = u := Option.some.inj ht
              subst this
              exact ⟨rfl, of_decide_eq_true hmay⟩
        · exact absurd (List.mem_filterMap.mpr ⟨w, memB w hww e, ht⟩) h2
      · exact .inl (wait_iff.mpr ⟨h1, hs⟩)
    refine ⟨fun c h hcw w hww hok => ?_, fun c h u hu hul => ?_, fun w hww c hk => ?_⟩
    · obtain ⟨hne, hb⟩ := back c hcw
      have hcl : c ∈ st.lk := (List.mem_append.mp h).elim id fun e => absurd (List.mem_singleton.mp e) hne
      rcases hb with hb | ⟨_, hg⟩
      · rcases mem' w hww with ⟨hw', _⟩ | rfl
        · exact r.i1 c hcl hb w hw' hok
        · have hg := r.i2 c hcl nm hw hl
          obtain ⟨m1, m2⟩ := hok
          have hlt : gradeOf cs c < gradeOf cs nm := of_decide_eq_true m1
          refine r.i1 c hcl hb w0 hw0 ⟨?_, m2⟩
          have hmay := ho.1
          unfold mayB at hmay ⊢
          cases hk : w0.k with
          | none => rfl
          | some q =>
            obtain ⟨b, d⟩ := q
            rw [hk] at hmay
            cases b with
            | true => cases hmay
            | false =>
              have : gradeOf cs nm < gradeOf cs d := of_decide_eq_true hmay
              exact decide_eq_true (by omega)
      · have := r.i2 c hcl nm hw hl
        omega
    · obtain ⟨hne, hb⟩ := back u hu
      have hul' : u ∉ st.lk := fun z => hul (List.mem_append_left _ z)
      rcases hb with hb | ⟨_, hg⟩
      · rcases List.mem_append.mp h with h | h
        · exact r.i2 c h u hb hul'
        · rw [List.mem_singleton.mp h]; exact first' u hb hul'
      · rcases List.mem_append.mp h with h | h
        · have := r.i2 c h nm hw hl
          omega
        · rw [List.mem_singleton.mp h]; omega
    · rcases mem' w hww with ⟨hw', _⟩ | rfl
      · exact r.way w hw' c hk
      · cases hk
        exact ho.2
theorem run_rst {T : Tn} {D : Tab} {now : Int} {cs : List Cl} (cq : CQ cs) (cnd : (cs.map Cl.n).Nodup) : ∀ (m : Nat) {st : St}, StOk2 T cs st → Rst T D cs st → 10 < m + st.lk.length →
    Rst T D cs (runS T D now cs m st) ∧ nextN cs (runS T D now cs m st).ws (runS T D now cs m st).lk = none
  | 0, st, h, r, hm => by
    refine ⟨r, ?_⟩
    cases hn : nextN cs st.ws st.lk with
    | none => exact hn
    | some nm => have := lk_lt cq h hn; omega
  | m + 1, st, h, r, hm => by
    cases hn : nextN cs st.ws st.lk with
    | none => rw [runS_none hn]; exact ⟨r, hn⟩
    | some nm =>
      rw [runS_some hn]
      refine run_rst cq cnd m (step_ok cq h hn) (rst_step cnd h.nd r hn) ?_
      have : (stepS T D now cs nm st).lk.length = st.lk.length + 1 := by
        unfold stepS
        split <;> simp
      omega
theorem fin_rest {T : Tn} {D : Tab} {now : Int} {cs : List Cl} {ws : List Wn} (cq : CQ cs) (cnd : (cs.map Cl.n).Nodup) (wf : WF T cs ws) (nd : (ws.map Wn.n).Nodup) (way : ∀ w ∈ ws, ∀ c, w.k = some (false, c) → D (pIx T.places (placeOf cs c)) (pIx T.places w.l) ≠ none) :
    (∀ c ∈ waitN (fin T D now cs ws).ws cs, ∀ w ∈ (fin T D now cs ws).ws, ¬ okS T D cs w c) ∧ ∀ w ∈ (fin T D now cs ws).ws, ∀ c, w.k = some (false, c) → D (pIx T.places (placeOf cs c)) (pIx T.places w.l) ≠ none := by
  obtain ⟨r, hn⟩ := run_rst (now := now) cq cnd 11 (st := ⟨ws, [], []⟩) ⟨wf, nd, List.nodup_nil, fun _ h => (List.not_mem_nil h).elim, Nat.le_refl _, fun _ h => (List.not_mem_nil h).elim⟩ ⟨fun _ h => (List.not_mem_nil h).elim, fun _ h => (List.not_mem_nil h).elim, way⟩ (by show 10 < 11 + 0; omega)
  refine ⟨fun c hc => ?_, r.way⟩
  have := List.find?_eq_none.mp hn c hc
  exact r.i1 c (by simpa using this) hc
/-- at rest nobody is sent -/
theorem run_still {T : Tn} {D : Tab} {now : Int} {cs : List Cl} : ∀ (m : Nat) {st : St}, (∀ c ∈ waitN st.ws cs, ∀ w ∈ st.ws, ¬ okS T D cs w c) → (runS T D now cs m st).ws = st.ws ∧ (runS T D now cs m st).sn = st.sn
  | 0, _, _ => ⟨rfl, rfl⟩
  | m + 1, st, h => by
    cases hn : nextN cs st.ws st.lk with
    | none => rw [runS_none hn]; exact ⟨rfl, rfl⟩
    | some nm =>
      rw [runS_some hn]
      have hc : chosenN T D now cs st.ws nm = none := chosen_none.mpr (h nm (List.mem_of_find?_eq_some hn))
      have e : stepS T D now cs nm st = ⟨st.ws, st.lk ++ [nm], st.sn⟩ := by unfold stepS; rw [hc]
      rw [e]
      exact run_still m (st := ⟨st.ws, st.lk ++ [nm], st.sn⟩) h
theorem no_cut {T : Tn} {D : Tab} {cs : List Cl} {ws : List Wn} (h : ∀ w ∈ ws, ∀ c, w.k = some (false, c) → D (pIx T.places (placeOf cs c)) (pIx T.places w.l) ≠ none) : cutL T D cs ws = [] ∧ behL T D cs ws = ws := by
  have key : ∀ w ∈ ws, cutB T D cs w = false := fun w hw => by
    unfold cutB
    split
    · rename_i c hk
      cases hd : D (pIx T.places (placeOf cs c)) (pIx T.places w.l) with
      | none => exact absurd hd (h w hw c hk)
      | some d => rfl
    · rfl
  constructor
  · unfold cutL
    rw [List.filterMap_eq_nil_iff]
    intro w hw
    rw [key w hw]
    rfl
  · unfold behL
    conv => rhs; rw [← List.map_id ws]
    exact List.map_congr_left fun w hw => by rw [key w hw]; rfl
theorem way_of_cut {T : Tn} {D : Tab} {cs : List Cl} {ws : List Wn} : ∀ w ∈ behL T D cs ws, ∀ c, w.k = some (false, c) → D (pIx T.places (placeOf cs c)) (pIx T.places w.l) ≠ none := fun w hw c hk hd => by
  have := cut_beh hw
  unfold cutB at this
  rw [hk] at this
  simp [hd] at this
theorem beh_names {T : Tn} {D : Tab} {cs : List Cl} {ws : List Wn} : (behL T D cs ws).map Wn.n = ws.map Wn.n := by
  unfold behL
  rw [List.map_map]
  refine List.map_congr_left fun w _ => ?_
  show (if cutB T D cs w then freedW w else w).n = w.n
  split <;> rfl
theorem Wl.mono {sts sts' : List Stp} {k h g : Nat} {L : Int} (hs : ∀ s ∈ sts, s ∈ sts') (w : Wl sts k h g L) : Wl sts' k h g L := by
  induction w with
  | nil h => exact .nil h
  | one h => exact .one (hs _ h)
  | cons h hb _ ih => exact .cons (hs _ h) hb ih
theorem steps_sub {T : Tn} {zs : List Int} {n : Nat} : ∀ s ∈ stepsTo T zs n, s ∈ stepsTo T [] n := fun s hs => by
  unfold stepsTo at *
  obtain ⟨k, hk, h⟩ := List.mem_flatMap.mp hs
  refine List.mem_flatMap.mpr ⟨k, hk, ?_⟩
  unfold stepsAt at *
  cases hr : T.roads[k]? with
  | none => rw [hr] at h; exact h
  | some r =>
    rw [hr] at h
    by_cases hz : (k : Int) ∈ zs
    · simp [hz] at h
    · simp only [hz, if_false] at h
      simpa using h
theorem more_roads {T : Tn} {zs : List Int} {n m : Nat} {D D1 : Tab} (h : Cht (stepsTo T zs m) n D) (h1 : Cht (stepsTo T [] m) n D1) {g k : Nat} (hg : g < n) (hk : k < n) (hd : D g k ≠ none) : D1 g k ≠ none := by
  cases e : D g k with
  | none => exact absurd e hd
  | some d =>
    obtain ⟨d', e', _⟩ := h1.lo k g d hk hg ((h.sn g k d e).mono steps_sub)
    rw [e']
    exact fun z => nomatch z
/-! ### the nearest that may be sent -/
def nearL (T : Tn) (D : Tab) (now : Int) (cs : List Cl) (ws : List Wn) (nm : Str) : List Int := (ws.filter fun w => mayB cs w nm).filterMap fun w => farN T D now w (placeOf cs nm)
def nearN (T : Tn) (D : Tab) (now : Int) (cs : List Cl) (ws : List Wn) (nm : Str) : Option Int := (nearL T D now cs ws nm).min?
theorem min_some {ns : List Int} {m : Int} (h : m ∈ ns) (hl : ∀ y ∈ ns, m ≤ y) : ns.min? = some m := List.min?_eq_some_iff.mpr ⟨h, hl⟩
def spNearest (K : PySem.W.Frag) : Sp := fun vs H Q _ => ∃ (t c b a : Addr) (now : Int) (nm : Str) (T : Tn) (D : Tab) (cs : List Cl) (ws : List Wn) (wv cv : List V), vs = [.ref t, .ref c, .int now, .ref b, .ref a, .str nm] ∧ Sc K H T D cs ws t c b a wv cv ∧ nm ∈ cs.map Cl.n ∧
  ∀ H', Keep [] H H' → Q (mV (nearN T D now cs ws nm)) H'
theorem flt_next {α : Type} {p : α → Bool} {l : List α} {i : Nat} {x : α} (h : l[i]? = some x) : (l.take (i + 1)).filter p = (l.take i).filter p ++ (if p x = true then [x] else []) := by
  rw [List.take_succ, h, List.filter_append]
  congr 1
  by_cases e : p x = true
  · simp [e]
  · simp [e]
theorem flt_len {α : Type} {p : α → Bool} {l : List α} {i : Nat} : ((l.take i).filter p).length ≤ l.length := Nat.le_trans (List.length_filter_le _ _) (by rw [List.length_take]; omega)
theorem rd_nearest (K : PySem.W.Frag) : ∀ vs H Q E, spNearest K vs H Q E → run (t__law_nearest K (spMay K) (spFar K)) (L2.start N__law_nearest vs) H Q := by
  rintro _ H Q _ ⟨t, c, b, a, now, nm, T, D, cs, ws, wv, cv, rfl, sc, hm, q⟩
  show run (t__law_nearest K (spMay K) (spFar K)) [some (.ref t), some (.ref c), some (.int now), some (.ref b), some (.ref a), some (.str nm), none, none, none, none, none] H Q
  unfold t__law_nearest
  walk_at "sx"
  obtain ⟨e, hfe, hem, hen⟩ := found_of hm
  have hpl : placeOf cs nm = e.p := by unfold placeOf; rw [hfe]; rfl
  have l10 := sc.l
  have w5 := sc.wf.l
  refine g_CE (RR := ClAt) sc.hA sc.a (fun H H' x r h k => h.keep k noT0) (fun i H' acc => acc = ((cs.take i).filter (isN nm)).map fun c => V.str c.p) (fun _ _ _ _ => rfl) ?_ ?_
  · rintro L i x d H1 acc R R0 nL hc k eL ⟨p, rfl, tp⟩ rfl hR hR0
    walk_at "sx"
    refine g_ixT tp (at_lit 0 rfl rfl) (g_eq rfl ⟨_, rfl, ?_⟩)
    rw [dec_strV]
    have nx := flt_next (p := isN nm) hc
    by_cases h : d.n = nm
    · rw [decide_eq_true h, if_pos rfl]
      rw [if_pos (show isN nm d = true from decide_eq_true h)] at nx
      refine g_ixT tp (at_lit 1 rfl rfl) (hR _ _ (Keep.refl _ _) (by rw [List.length_map]; exact len_lt (by have := flt_len (p := isN nm) (l := cs) (i := i); omega)) fun H5 _ => ?_)
      rw [nx, List.map_append]
      rfl
    · rw [decide_eq_false h, if_neg (by decide)]
      rw [if_neg (show ¬ isN nm d = true from fun z => h (of_decide_eq_true z)), List.append_nil] at nx
      refine hR0 _ (Keep.refl _ _) ?_
      rw [nx]
  rintro L H1 acc nL k1 eL rfl
  rw [List.take_length] at eL
  have e0 : ((cs.filter (isN nm)).map fun c => V.str c.p)[0]? = some (.str e.p) := by
    rw [List.getElem?_map, ← List.head?_eq_getElem?, List.head?_filter, hfe]
    rfl
  refine g_ixL eL (at_lit 0 rfl e0) ?_
  walk_at "sx"
  have sc1 := sc.keep0 k1
  refine g_CE (RR := fun H x w => WnAt K H x w) sc1.hW sc1.w (fun H H' x r h k => h.keep k noT0) (fun i H' acc => acc = ((ws.take i).filter fun w => mayB cs w nm).map fun w => mV (farN T D now w e.p)) (fun _ _ _ _ => rfl) ?_ ?_
  · rintro L2 i x w H2 acc R R0 nL2 hw k2 eL2 hx rfl hR hR0
    have hwm := List.mem_of_getElem? hw
    have sc2 := sc1.keep0 k2
    have nx := flt_next (p := fun w => mayB cs w nm) hw
    walk_at "sx"
    refine ⟨a, cv, cs, x, w, nm, rfl, sc2.hA, sc2.a, sc.l, hx, sc.wf.k w hwm, sc.nd, sc.wf.t w hwm, hm, fun H4 k4 => ⟨_, rfl, ?_⟩⟩
    by_cases hmay : mayB cs w nm = true
    · rw [if_pos hmay] at nx ⊢
      have sc4 := sc2.keep0 k4
      refine ⟨t, c, now, x, e.p, T, D, w, rfl, sc4.hT, sc4.hC, hx.keep k4 noT0, sc.wf.pl w hwm, sc.cp _ hem, ?_⟩
      refine hR _ _ k4 (by rw [List.length_map]; exact len_lt (by have := flt_len (p := fun w => mayB cs w nm) (l := ws) (i := i); omega)) fun H5 _ => ?_
      rw [nx, List.map_append]
      rfl
    · rw [if_neg hmay] at nx ⊢
      rw [List.append_nil] at nx
      refine hR0 _ k4 ?_
      rw [nx]
  rintro L2 H2 acc nL2 k2 eL2 rfl
  rw [List.take_length] at eL2
  walk_at "sx"
  unfold tMinN
  walk_at "sx"
  refine g_CE (RR := fun _ x w => x = mV (farN T D now w e.p)) (.inl eL2) (ei_map (fun w => mV (farN T D now w e.p)) (fun _ => rfl) (ws.filter fun w => mayB cs w nm)) (fun H H' x r h k => h) (fun i H' acc => acc = (((ws.filter fun w => mayB cs w nm).take i).filterMap fun w => farN T D now w e.p).map V.int) (fun _ _ _ _ => rfl) ?_ ?_
  · rintro L3 i _ w H3 acc R R0 nL3 hw k3 eL3 rfl rfl hR hR0
    walk_at "sx"
    have lw : (ws.filter fun w => mayB cs w nm).length ≤ 5 := Nat.le_trans (List.length_filter_le _ _) w5
    have nx : ((ws.filter fun w => mayB cs w nm).take (i + 1)).filterMap (fun w => farN T D now w e.p) = ((ws.filter fun w => mayB cs w nm).take i).filterMap (fun w => farN T D now w e.p) ++ (farN T D now w e.p).toList := by
      rw [List.take_succ, hw, List.filterMap_append]
      cases hf : farN T D now w e.p <;> simp [hf]
    cases hf : farN T D now w e.p with
    | none =>
      rw [hf] at nx
      rw [if_neg (by show ¬ (!decide (V.non = V.non)) = true; simp)]
      refine hR0 _ (Keep.refl _ _) ?_
      rw [nx]
      simp
    | some m =>
      rw [hf] at nx
      rw [if_pos (by show (!decide (V.int m = V.non)) = true; simp)]
      refine hR _ _ (Keep.refl _ _) (by
        rw [List.length_map]
        refine len_lt ?_
        have := List.length_filterMap_le (fun w => farN T D now w e.p) ((ws.filter fun w => mayB cs w nm).take i)
        rw [List.length_take] at this
        omega) fun H5 _ => ?_
      rw [nx]
      simp [mV]
  rintro L3 H3 acc nL3 k3 eL3 rfl
  rw [List.take_length] at eL3
  have k03 := k1.trans (k2.trans k3)
  refine ⟨L3, _, rfl, lst_sq eL3, fun h0 => ?_, fun m hm' hmin => ?_⟩
  · have q' := q H3 k03
    unfold nearN nearL at q'
    rw [hpl, h0] at q'
    exact q'
  · have q' := q H3 k03
    unfold nearN nearL at q'
    rw [hpl, min_some hm' hmin] at q'
    exact q'
/-! ### no call has two wagons -/
theorem g_inX {K : PySem.W.Frag} {p : Addr} {z : Str} {ys : List Str} {H : Hp} {Q : VK} (h : H p = some (.lst (ys.map V.str))) (q : Q (.bl (decide (z ∈ ys))) H) : uIn K false (.str z) (.ref p) H Q := by
  exact .inl ⟨p, _, rfl, .inl (lst_sq h), rfl, flat_strs ys, by rw [if_neg (by decide), inV_str]; exact q⟩
def spOne (K : PySem.W.Frag) : Sp := fun vs H Q _ => ∃ (b a : Addr) (wv cv : List V) (ws : List Wn) (cs : List Cl), vs = [.ref b, .ref a] ∧ Sq H b wv ∧ EI (WnAt K H) wv ws ∧ ws.length ≤ 5 ∧ (∀ w ∈ ws, TkN w.k) ∧ Sq H a cv ∧ EI (ClAt H) cv cs ∧ cs.length ≤ 10 ∧
  (ws.filterMap tkN).Nodup ∧ (∀ w ∈ ws, ∀ c, tkN w = some c → c ∈ cs.map Cl.n) ∧ ∀ H', Keep [] H H' → Q (.bl true) H'
theorem rd_one (K : PySem.W.Frag) : ∀ vs H Q E, spOne K vs H Q E → run (t__law_one_each K) (L2.start N__law_one_each vs) H Q := by
  rintro _ H Q _ ⟨b, a, wv, cv, ws, cs, rfl, hb, ew, w5, htk, ha, ec, l10, nd, hin, q⟩
  show run (t__law_one_each K) [some (.ref b), some (.ref a), none, none, none, none] H Q
  unfold t__law_one_each
  walk_at "sx"
  have lens : ∀ l : List Wn, (l.filterMap tkN).length ≤ l.length := fun l => List.length_filterMap_le _ _
  refine g_CE (RR := fun H x w => WnAt K H x w) hb ew (fun H H' x r h k => h.keep k noT0) (fun i H' acc => acc = ((ws.take i).filterMap tkN).map V.str) (fun _ _ _ _ => rfl) ?_ ?_
  · rintro L i x w H1 acc R R0 nL hw k eL ⟨p, tk, rfl, tp, utk⟩ rfl hR hR0
    have hk := htk w (List.mem_of_getElem? hw)
    have nx := served_next hw
    walk_at "sx"
    refine g_ixT tp (at_lit 5 rfl rfl) ⟨by walk_at "sz", fun fr H2 n2 k2 t2 => ne_free (sqt_keep utk k2 noT0) hk t2.sq ⟨_, rfl, ?_⟩⟩
    rcases hkk : w.k with _ | ⟨fl, nm⟩
    · rw [if_neg (by simp)]
      refine hR0 _ k2 ?_
      have e0 : tkN w = none := by unfold tkN; rw [hkk]; rfl
      rw [nx, e0]
      simp
    · rw [if_pos (by simp)]
      rw [hkk] at utk
      have e0 : tkN w = some nm := by unfold tkN; rw [hkk]; rfl
      refine g_ixT (tp.keep k2 nin0) (at_lit 5 rfl rfl) (g_ixK (sqt_keep utk k2 noT0) (tk_at1 fl nm) (hR _ _ k2 (by
        rw [List.length_map]
        refine len_lt ?_
        have := lens (ws.take i)
        rw [List.length_take] at this
        omega) fun H5 _ => ?_))
      rw [nx, e0]
      simp
  rintro L H1 acc nL k1 eL rfl
  rw [List.take_length] at eL
  walk_at "sx"
  unfold tLenTexts
  walk_at "sx"
  refine ⟨L, ws.filterMap tkN, rfl, lst_sq eL, nd, by have := lens ws; omega, g_lenL eL (g_eq rfl ?_)⟩
  rw [show decide (V.int ((ws.filterMap tkN).length : Int) = V.int (((ws.filterMap tkN).map V.str).length : Int)) = true by rw [List.length_map]; exact decide_eq_true rfl]
  refine ⟨_, rfl, ?_⟩
  rw [if_pos rfl]
  have few := lens ws
  have served : ∀ c ∈ ws.filterMap tkN, c ∈ cs.map Cl.n := fun c hc => by
    obtain ⟨w, hw, e⟩ := List.mem_filterMap.mp hc
    exact hin w hw c e
  refine g_CE (RR := fun _ x s => x = V.str s) (.inl eL) (ei_map V.str (fun _ => rfl) _) (fun H H' x r h k => h) (fun i H' acc => acc = (List.replicate i true).map V.bl) (fun _ _ _ _ => rfl) ?_ ?_
  · rintro L2 i _ s H2 acc R R0 nL2 hs k2 eL2 rfl rfl hR hR0
    have hi := (List.getElem?_eq_some_iff.mp hs).1
    have k02 := k1.trans k2
    walk_at "sx"
    refine g_CE (RR := ClAt) (ha.keep k02 nin0) (cls_keep ec k02 noT0) (fun H H' x r h k => h.keep k noT0) (fun i H' acc => acc = ((cs.take i).map Cl.n).map V.str) (fun _ _ _ _ => rfl) ?_ ?_
    · rintro L3 j x d H3 acc R' R0' nL3 hd k3 eL3 ⟨p, rfl, tp⟩ rfl hR' _
      walk_at "sx"
      refine g_ixT tp (at_lit 0 rfl rfl) (hR' _ _ (Keep.refl _ _) (by simp only [List.length_map, List.length_take]; exact len_lt (by omega)) fun H5 _ => ?_)
      rw [List.take_succ, hd, List.map_append, List.map_append]
      rfl
    · rintro L3 H3 acc nL3 k3 eL3 rfl
      rw [List.take_length] at eL3
      refine g_inX eL3 ?_
      rw [decide_eq_true (served s (List.mem_of_getElem? hs))]
      refine hR _ _ k3 (by simp only [List.length_map, List.length_replicate]; exact len_lt (by omega)) fun H5 _ => ?_
      rw [List.replicate_succ', List.map_append]
      rfl
  · rintro L2 H2 acc nL2 k2 eL2 rfl
    refine ⟨L2, _, rfl, lst_sq eL2, ?_⟩
    rw [show (List.replicate (ws.filterMap tkN).length true).all id = true from List.all_eq_true.mpr fun x hx => (List.eq_of_mem_replicate hx)]
    exact q H2 (k1.trans k2)
/-! ### sendings walked once more -/
theorem run_more {T : Tn} {D : Tab} {now : Int} {cs : List Cl} : ∀ (m : Nat) (st : St), ∃ tl : List Snt, (runS T D now cs m st).sn = st.sn ++ tl ∧ ∀ s ∈ tl, s.a ∉ st.lk
  | 0, st => ⟨[], by simp [runS], fun _ h => (List.not_mem_nil h).elim⟩
  | m + 1, st => by
    cases hn : nextN cs st.ws st.lk with
    | none => rw [runS_none hn]; exact ⟨[], by simp, fun _ h => (List.not_mem_nil h).elim⟩
    | some nm =>
      rw [runS_some hn]
      obtain ⟨tl, e, h⟩ := run_more m (stepS T D now cs nm st)
      have hl := (next_mem hn).2
      unfold stepS at e h ⊢
      cases hc : chosenN T D now cs st.ws nm with
      | none =>
        rw [hc] at e h
        exact ⟨tl, e, fun s hs hx => h s hs (List.mem_append_left _ hx)⟩
      | some wn =>
        rw [hc] at e h
        refine ⟨⟨nm, wn, leftOf st.ws wn⟩ :: tl, by rw [e, List.append_assoc]; rfl, fun s hs hx => ?_⟩
        rcases List.mem_cons.mp hs with rfl | hs
        · exact hl hx
        · exact h s hs (List.mem_append_left _ hx)
theorem run_same {T : Tn} {D : Tab} {now : Int} {cs : List Cl} : ∀ (m : Nat) (st : St), (runS T D now cs m st).sn = st.sn → (runS T D now cs m st).ws = st.ws
  | 0, st, _ => rfl
  | m + 1, st, h => by
    cases hn : nextN cs st.ws st.lk with
    | none => rw [runS_none hn]
    | some nm =>
      rw [runS_some hn] at h ⊢
      cases hc : chosenN T D now cs st.ws nm with
      | none =>
        have e : stepS T D now cs nm st = ⟨st.ws, st.lk ++ [nm], st.sn⟩ := by unfold stepS; rw [hc]
        rw [e] at h ⊢
        exact run_same m ⟨st.ws, st.lk ++ [nm], st.sn⟩ h
      | some wn =>
        exfalso
        obtain ⟨tl, e, _⟩ := run_more (T := T) (D := D) (now := now) (cs := cs) m (stepS T D now cs nm st)
        have e2 : (stepS T D now cs nm st).sn = st.sn ++ [⟨nm, wn, leftOf st.ws wn⟩] := by unfold stepS; rw [hc]
        rw [e2, h, List.append_assoc] at e
        have := congrArg List.length e
        simp at this
/-- what a turn towards the next sending is -/
theorem turn_is {T : Tn} {D : Tab} {now : Int} {cs : List Cl} {F st : St} {m j : Nat} {s : Snt} (hr : runS T D now cs m st = F) (hs : st.sn = F.sn.take j) (hj : F.sn[j]? = some s) :
    ∃ m', m = m' + 1 ∧ ∃ nm, nextN cs st.ws st.lk = some nm ∧ ((chosenN T D now cs st.ws nm = none ∧ s.a ≠ nm) ∨ ∃ wn, chosenN T D now cs st.ws nm = some wn ∧ s = ⟨nm, wn, leftOf st.ws wn⟩) := by
  have hlt := (List.getElem?_eq_some_iff.mp hj).1
  have hlen : st.sn.length = j := by rw [hs, List.length_take]; omega
  have apart : F ≠ st := fun e => by rw [← e] at hlen; omega
  cases m with
  | zero => exact absurd hr.symm apart
  | succ m =>
    refine ⟨m, rfl, ?_⟩
    cases hn : nextN cs st.ws st.lk with
    | none => rw [runS_none hn] at hr; exact absurd hr.symm apart
    | some nm =>
      refine ⟨nm, rfl, ?_⟩
      rw [runS_some hn] at hr
      obtain ⟨tl, e, h⟩ := run_more (T := T) (D := D) (now := now) (cs := cs) m (stepS T D now cs nm st)
      rw [hr] at e
      unfold stepS at e h
      cases hc : chosenN T D now cs st.ws nm with
      | none =>
        rw [hc] at e h
        refine .inl ⟨rfl, fun hx => ?_⟩
        have e' : F.sn = st.sn ++ tl := e
        rw [e', List.getElem?_append_right (by omega)] at hj
        exact h s (List.mem_of_getElem? hj) (by rw [hx]; exact List.mem_append_right _ (List.mem_singleton.mpr rfl))
      | some wn =>
        rw [hc] at e h
        refine .inr ⟨wn, rfl, ?_⟩
        have e' : F.sn = (st.sn ++ [⟨nm, wn, leftOf st.ws wn⟩]) ++ tl := e
        rw [e', List.append_assoc, List.getElem?_append_right (by omega), hlen, Nat.sub_self] at hj
        exact (Option.some.inj hj).symm
theorem kLt_le {a b : Ky} (h : kLt a b = true) : a.1 ≤ b.1 := by
  refine Int.not_lt.mp fun hlt => ?_
  obtain ⟨a1, a2, a3⟩ := a
  obtain ⟨b1, b2, b3⟩ := b
  have hl : b1 < a1 := hlt
  have hne : (Sum.inl a1 : Int ⊕ List Nat) ≠ Sum.inl b1 := fun e => by cases e; omega
  have h' : PyProof.Rows.lexLt PyProof.Rows.itemOrd ([.inl 1] ++ (.inl a1 :: _)) ([.inl 1] ++ (.inl b1 :: _)) = true := h
  rw [PySem.W.lex_pre, PyProof.Rows.lex_diff hne] at h'
  have : a1 < b1 := of_decide_eq_true h'
  omega
theorem best_le {l : List Ky} {k : Ky} (h : bestOf l = some k) : ∀ x ∈ l, k.1 ≤ x.1 := by
  cases l with
  | nil => cases h
  | cons a l =>
    have h' := Option.some.inj h
    subst h'
    have key : ∀ (l : List Ky) (a : Ky), (l.foldl (fun x y => if kLt y x then y else x) a).1 ≤ a.1 ∧ ∀ x ∈ l, (l.foldl (fun x y => if kLt y x then y else x) a).1 ≤ x.1 := by
      intro l
      induction l with
      | nil => intro a; exact ⟨Int.le_refl _, fun _ h => (List.not_mem_nil h).elim⟩
      | cons y l ih =>
        intro a
        rw [List.foldl_cons]
        obtain ⟨i1, i2⟩ := ih (if kLt y a then y else a)
        have both : (if kLt y a then y else a).1 ≤ a.1 ∧ (if kLt y a then y else a).1 ≤ y.1 := by
          by_cases e : kLt y a = true
          · rw [if_pos e]; exact ⟨kLt_le e, Int.le_refl _⟩
          · rw [if_neg e]
            refine ⟨Int.le_refl _, Int.not_lt.mp fun hlt => e (kLt_fst hlt)⟩
        refine ⟨Int.le_trans i1 both.1, fun x hx => ?_⟩
        rcases List.mem_cons.mp hx with rfl | hx
        · exact Int.le_trans i1 both.2
        · exact i2 x hx
    intro x hx
    rcases List.mem_cons.mp hx with rfl | hx
    · exact (key l _).1
    · exact (key l _).2 x hx
theorem near_some {T : Tn} {D : Tab} {now : Int} {cs : List Cl} {ws : List Wn} {nm wn : Str} (h : chosenN T D now cs ws nm = some wn) :
    ∃ w ∈ ws, w.n = wn ∧ mayB cs w nm = true ∧ nearN T D now cs ws nm = farN T D now w (placeOf cs nm) := by
  unfold chosenN at h
  cases hb : bestOf (keysL T D now cs nm ws) with
  | none => rw [hb] at h; cases h
  | some k =>
    rw [hb] at h
    obtain ⟨w, hw, hk⟩ := List.mem_filterMap.mp (best_mem hb)
    have hn := keyOf_n hk
    unfold keyOf at hk
    by_cases hm : mayB cs w nm = true
    · rw [if_pos hm] at hk
      cases hf : farN T D now w (placeOf cs nm) with
      | none => rw [hf] at hk; cases hk
      | some m =>
        rw [hf] at hk
        have ek : k.1 = m := by rw [← Option.some.inj hk]
        refine ⟨w, hw, hn.symm.trans (Option.some.inj h), hm, ?_⟩
        rw [hf]
        refine min_some (List.mem_filterMap.mpr ⟨w, List.mem_filter.mpr ⟨hw, hm⟩, hf⟩) fun y hy => ?_
        obtain ⟨u, hu, hy⟩ := List.mem_filterMap.mp hy
        obtain ⟨hu, hmu⟩ := List.mem_filter.mp hu
        have : ((y, (if u.k.isNone then 0 else 1), u.n) : Ky) ∈ keysL T D now cs nm ws := List.mem_filterMap.mpr ⟨u, hu, by unfold keyOf; rw [if_pos hmu, hy]; rfl⟩
        rw [← ek]
        exact best_le hb _ this
    · rw [if_neg hm] at hk; cases hk
theorem near_none {T : Tn} {D : Tab} {now : Int} {cs : List Cl} {ws : List Wn} {nm : Str} (h : ∀ w ∈ ws, ¬ okS T D cs w nm) : nearN T D now cs ws nm = none := by
  have e : nearL T D now cs ws nm = [] := by
    unfold nearL
    rw [List.filterMap_eq_nil_iff]
    intro w hw
    obtain ⟨hw, hm⟩ := List.mem_filter.mp hw
    cases hf : farN T D now w (placeOf cs nm) with
    | none => rfl
    | some m =>
      refine absurd ⟨hm, fun hd => ?_⟩ (h w hw)
      unfold farN at hf
      rw [hd] at hf
      cases hf
  unfold nearN
  rw [e]
  rfl
theorem flt_first {p : Str → Bool} {x : Str} : ∀ {l : List Str}, l.Nodup → l.find? p = some x → l.filter p = x :: l.filter fun y => p y && decide (y ≠ x)
  | [], _, h => by cases h
  | a :: l, nd, h => by
    obtain ⟨h1, h2⟩ := List.nodup_cons.mp nd
    rw [List.find?_cons] at h
    cases hp : p a with
    | true =>
      rw [hp] at h
      have e : a = x := Option.some.inj h
      subst e
      rw [List.filter_cons, if_pos hp, List.filter_cons, if_neg (by simp)]
      refine congrArg _ (List.filter_congr fun y hy => ?_)
      have : y ≠ a := fun e => h1 (e ▸ hy)
      simp [this]
    | false =>
      rw [hp] at h
      rw [List.filter_cons, if_neg (by simp [hp]), List.filter_cons, if_neg (by simp [hp])]
      exact flt_first h2 h
theorem wait_nodup {ws : List Wn} {cs : List Cl} (nd : (cs.map Cl.n).Nodup) : (waitN ws cs).Nodup := by
  unfold waitN M
  have p := ((List.mergeSort_perm ((cs.filter (openC ws)).map qk) leK).map fun k => k.2.2)
  refine p.nodup_iff.mpr ?_
  rw [List.map_map]
  exact nd.sublist ((List.filter_sublist (l := cs)).map Cl.n)
def ordN (cs : List Cl) (ws : List Wn) (lk : List Str) : List Str := (waitN ws cs).filter fun y => decide (y ∉ lk)
theorem ord_next {cs : List Cl} {ws : List Wn} {lk : List Str} {nm : Str} (nd : (cs.map Cl.n).Nodup) (h : nextN cs ws lk = some nm) : ordN cs ws lk = nm :: ordN cs ws (lk ++ [nm]) := by
  unfold ordN
  rw [flt_first (wait_nodup nd) h]
  refine congrArg _ (List.filter_congr fun y _ => ?_)
  rw [← Bool.decide_and, decide_eq_decide, List.mem_append, List.mem_singleton, not_or]
theorem ord_len {cs : List Cl} {ws : List Wn} {lk : List Str} : (ordN cs ws lk).length ≤ cs.length := by
  unfold ordN waitN M
  refine Nat.le_trans (List.length_filter_le _ _) ?_
  rw [List.length_map, List.length_mergeSort, List.length_map]
  exact List.length_filter_le _ _
/-! names in their order -/
theorem leW_total : PySem.W.TotalLe leW := PySem.W.sortLe_total _ false _
theorem cps_name (x : Str) : PySem.W.keyToks (.str x) = [.inr x.cps.toList] := by simp [PySem.W.keyToks]
theorem leW_name {a b : Wn} (hne : a.n ≠ b.n) (h : leW a b = true) : ltCps b.n.cps.toList a.n.cps.toList = false := by
  have h2 : PySem.W.dataLt (wnD b) (wnD a) = false := by
    have : (!PySem.W.dataLt (wnD b) (wnD a)) = true := h
    simpa using this
  have hn : (Sum.inr b.n.cps.toList : Int ⊕ List Nat) ≠ Sum.inr a.n.cps.toList := fun e => hne (by
    have e2 : b.n.cps.toList = a.n.cps.toList := by injection e
    generalize ha : a.n = x at *
    generalize hb : b.n = y at *
    obtain ⟨x⟩ := x
    obtain ⟨y⟩ := y
    have e3 : y.toList = x.toList := e2
    rw [Array.toList_inj.mp e3])
  have h3 : PyProof.Rows.lexLt PyProof.Rows.itemOrd ([.inl 1] ++ (.inr b.n.cps.toList :: _)) ([.inl 1] ++ (.inr a.n.cps.toList :: _)) = false := h2
  rw [PySem.W.lex_pre, PyProof.Rows.lex_diff hn] at h3
  rw [ltCps_eq]
  exact h3
def ByName (ns : List Str) : Prop := ns.Pairwise fun a b => ltCps b.cps.toList a.cps.toList = false
theorem by_name {ws0 : List Wn} (nd : ((ws0.mergeSort leW).map Wn.n).Nodup) : ByName ((ws0.mergeSort leW).map Wn.n) := by
  unfold ByName
  rw [List.pairwise_map]
  have nd' : (ws0.mergeSort leW).Pairwise fun a b => a.n ≠ b.n := List.pairwise_map.mp nd
  exact (PySem.W.sort_pairwise leW_total ws0).imp₂ (fun a b h1 h2 => leW_name h2 h1) nd'

/-! ### the walk over the sendings -/
def KwAt (K : PySem.W.Frag) (H : Hp) (kv : Key × V) (w : Wn) : Prop := kv.1 = Sum.inr w.n ∧ WnAt K H kv.2 w
theorem kw_keep {K : PySem.W.Frag} {S : List Addr} {H H' : Hp} {kvs : List (Key × V)} {ws : List Wn} (h : EI (KwAt K H) kvs ws) (k : Keep S H H') (n : NoT S H) : EI (KwAt K H') kvs ws := h.mono fun _ _ q => ⟨q.1, q.2.keep k n⟩
theorem kw_keys {K : PySem.W.Frag} {H : Hp} : ∀ {kvs : List (Key × V)} {ws : List Wn}, EI (KwAt K H) kvs ws → kvs.map (·.1) = (ws.map Wn.n).map Sum.inr
  | _, _, .nil => rfl
  | _, _, .cons h t => by rw [List.map_cons, List.map_cons, List.map_cons, kw_keys t, h.1]
theorem kw_get {K : PySem.W.Frag} {H : Hp} : ∀ {kvs : List (Key × V)} {ws : List Wn}, EI (KwAt K H) kvs ws → (ws.map Wn.n).Nodup → ∀ w ∈ ws, ∃ v, valV kvs (Sum.inr w.n) = some v ∧ WnAt K H v w
  | _, _, .nil, _, _, h => (List.not_mem_nil h).elim
  | kv :: kvs, u :: ws, .cons h t, nd, w, hw => by
    rw [List.map_cons, List.nodup_cons] at nd
    rcases List.mem_cons.mp hw with rfl | hw
    · exact ⟨kv.2, valV_pos h.1, h.2⟩
    · obtain ⟨v, e, hv⟩ := kw_get t nd.2 w hw
      refine ⟨v, ?_, hv⟩
      unfold valV at e ⊢
      rw [List.find?_cons, decide_eq_false (fun z => nd.1 (by
        have : u.n = w.n := by
          have z2 := h.1.symm.trans z
          injection z2
        rw [this]
        exact List.mem_map.mpr ⟨w, hw, rfl⟩))]
      exact e
theorem kw_put {K : PySem.W.Frag} {H : Hp} {kvs : List (Key × V)} {ws : List Wn} {wn nm : Str} {v : V} (e : EI (KwAt K H) kvs ws) (hm : wn ∈ ws.map Wn.n) (hv : ∀ w ∈ ws, w.n = wn → WnAt K H v (toW nm w)) : EI (KwAt K H) (putK kvs (Sum.inr wn) v) (sendW wn nm ws) := by
  have hany : (kvs.any fun kv => decide (kv.1 = Sum.inr wn)) = true := by
    have hk : (Sum.inr wn : Key) ∈ kvs.map (·.1) := by
      rw [kw_keys e]
      exact List.mem_map.mpr ⟨wn, hm, rfl⟩
    obtain ⟨kv, h1, h2⟩ := List.mem_map.mp hk
    exact List.any_eq_true.mpr ⟨kv, h1, decide_eq_true h2⟩
  unfold putK
  rw [if_pos hany]
  unfold sendW
  clear hany hm
  induction e with
  | nil => exact .nil
  | @cons kv w kvs ws h t ih =>
    refine .cons ?_ (ih fun u hu => hv u (List.mem_cons_of_mem _ hu))
    show KwAt K H (if kv.1 = Sum.inr wn then (kv.1, v) else kv) (if w.n = wn then toW nm w else w)
    by_cases hw : w.n = wn
    · rw [if_pos hw, if_pos (by rw [h.1, hw])]
      exact ⟨h.1, hv w List.mem_cons_self hw⟩
    · rw [if_neg hw, if_neg (fun z => hw (by have z2 := h.1.symm.trans z; injection z2))]
      exact h
theorem by_names {K : PySem.W.Frag} {y0 y1 y2 y4 y5 y6 y7 y8 y9 y10 y11 y12 y13 y14 : Option V} {d : Addr} {kvs : List (Key × V)} {ws : List Wn} {H : Hp} {Q : VK} (hd : H d = some (.dK kvs)) (e : EI (KwAt K H) kvs ws) (nd : (ws.map Wn.n).Nodup) (bn : ByName (ws.map Wn.n)) (w5 : ws.length ≤ 5)
    (q : ∀ p H' xs, H p = none → Keep [] H H' → H' p = some (.lst xs) → EI (WnAt K H') xs ws → Q (.ref p) H') :
    uSortD [.ref d] H fun x H1 => CU K (gName 13) tYes (tDGet (tVar 3) (tVar 13)) [13] [y0, y1, y2, some (.ref d), y4, y5, y6, y7, y8, y9, y10, y11, y12, y13, y14] Q x H1 := by
  refine ⟨d, kvs, ws.map Wn.n, rfl, hd, kw_keys e, by rw [List.length_map]; omega, fun ys hp hs => ?_⟩
  have hy : ys = ws.map Wn.n := sort_one bn hs hp
  subst hy
  intro p H1 n1 k1 e1
  rw [List.map_map] at e1
  have eK := kw_keep e k1 noT0
  have hd1 := k1 _ _ nin0 hd
  refine g_CE (RR := fun _ (x : V) (w : Wn) => x = V.str w.n) (.inl e1) (ei_map (V.str ∘ Wn.n) (fun _ => rfl) ws) (fun _ _ _ _ h _ => h) (fun i H' acc => EI (WnAt K H') acc (ws.take i)) (fun _ _ _ _ => .nil) ?_ ?_
  · rintro L i _ w H2 acc R R0 nL hw k2 eL rfl hacc hR _
    obtain ⟨v, hv, hvw⟩ := kw_get (kw_keep eK k2 noT0) nd w (List.mem_of_getElem? hw)
    walk_at "sx"
    refine ⟨d, v, rfl, ?_, ?_⟩
    · have := DGet.k (k := (Sum.inr w.n : Key)) (k2 _ _ nin0 hd1)
      rw [hv] at this
      exact this
    · refine hR _ _ (Keep.refl _ _) (by rw [hacc.length, List.length_take]; exact len_lt (by omega)) fun H5 k5 => ?_
      rw [List.take_succ, hw]
      exact ei_snoc (hvw.keep k5 (noT1 eL)) (wns_keep hacc k5 (noT1 eL))
  · intro L H2 acc nL k2 eL hacc
    rw [List.take_length] at hacc
    exact q L H2 acc (k1.free nin0 nL) (k1.trans k2) eL hacc
theorem eq_nilX {K : PySem.W.Frag} {H : Hp} {a b : Addr} {ys : List Str} {Q : VK} (h : H a = some (.lst (ys.map V.str))) (hn : ∀ y ∈ ys, NameOk (cl y)) (e : H b = some (.lst [])) (q : Q (.bl ys.isEmpty) H) : uEq K false (.ref a) (.ref b) H Q := by
  obtain ⟨ds, d, _, c, l⟩ := dp_strs (K := K) (H := H) ys hn
  refine .inr ⟨_, _, .lst (lst_sq h) d, .lst (lst_sq e) .nil, shaped_list c (by omega), by decide +kernel, ?_⟩
  rw [if_neg (by decide)]
  cases ys with
  | nil => cases d; exact q
  | cons y ys => cases d with
    | cons _ _ => exact q
theorem ne_nilX {K : PySem.W.Frag} {H : Hp} {a b : Addr} {ys : List Str} {Q : VK} (h : H a = some (.lst (ys.map V.str))) (hn : ∀ y ∈ ys, NameOk (cl y)) (e : H b = some (.lst [])) (q : Q (.bl (!ys.isEmpty)) H) : uEq K true (.ref a) (.ref b) H Q := by
  obtain ⟨ds, d, _, c, l⟩ := dp_strs (K := K) (H := H) ys hn
  refine ne_nilD h d c (by omega) e ?_
  cases ys <;> exact q
def spWalked (K : PySem.W.Frag) : Sp := fun vs H Q _ => ∃ (t c b a tv : Addr) (now : Int) (T : Tn) (D : Tab) (cs : List Cl) (ws : List Wn) (wv cv sv : List V), vs = [.ref t, .ref c, .int now, .ref b, .ref a, .ref tv] ∧ Sc K H T D cs ws t c b a wv cv ∧ (ws.map Wn.n).Nodup ∧ CQ cs ∧ ByName (ws.map Wn.n) ∧
  H tv = some (.lst sv) ∧ EI (SnAt H) sv (fin T D now cs ws).sn ∧ ∀ p H' xs, Keep [] H H' → H p = none → H' p = some (.lst xs) → EI (WnAt K H') xs (fin T D now cs ws).ws → Q (.ref p) H'
structure WD (K : PySem.W.Frag) (T : Tn) (D : Tab) (now : Int) (cs : List Cl) (ws : List Wn) (d l : Addr) (j m : Nat) (st : St) (H : Hp) : Prop where
  s1 : H l = some (.lst (st.lk.map V.str))
  s2 : ∃ kvs, H d = some (.dK kvs) ∧ EI (KwAt K H) kvs st.ws
  ok : StOk2 T cs st
  sn : st.sn = (fin T D now cs ws).sn.take j
  run : runS T D now cs m st = fin T D now cs ws
  nm : st.ws.map Wn.n = ws.map Wn.n
theorem Keep.join {S U : List Addr} {H H1 H2 : Hp} (k1 : Keep S H H1) (k2 : Keep U H1 H2) (h : ∀ x ∈ U, x ∈ S ∨ H x = none) : Keep S H H2 := fun b o hb e => k2 _ _ (fun hU => (h b hU).elim hb fun z => by rw [z] at e; cases e) (k1 _ _ hb e)
theorem kw_keepD {K : PySem.W.Frag} {H H' : Hp} {d : Addr} {kvs kvs' : List (Key × V)} {ws : List Wn} (h : EI (KwAt K H) kvs ws) (e : H d = some (.dK kvs')) (k : Keep [d] H H') : EI (KwAt K H') kvs ws :=
  h.mono fun _ _ ⟨q, p, tk, ex, t, u⟩ => ⟨q, p, tk, ex, t.keep k (nin1 (t.neD e)), sqt_keepD u e k⟩
theorem ne_sV {K : PySem.W.Frag} {H : Hp} {x : Option Str} {Q : VK} (q : Q (.bl false) H) : uEq K true (sV x) (sV x) H Q := by
  cases x with
  | none => exact g_ne rfl (by rw [decide_eq_true rfl]; exact q)
  | some y => exact g_ne rfl (by rw [decide_eq_true rfl]; exact q)
theorem ne_mV {K : PySem.W.Frag} {H : Hp} {x : Option Int} {Q : VK} (q : Q (.bl false) H) : uEq K true (mV x) (mV x) H Q := by
  cases x with
  | none => exact g_ne rfl (by rw [decide_eq_true rfl]; exact q)
  | some y => exact g_ne rfl (by rw [decide_eq_true rfl]; exact q)
theorem rd_walked (K : PySem.W.Frag) : ∀ vs H Q E, spWalked K vs H Q E → run (t__law_walked K (spWaiting K) (spNearest K) (spMay K) (spFar K)) (L2.start N__law_walked vs) H Q := by
  rintro _ H Q _ ⟨t, c, b, a, tv, now, T, D, cs, ws, wv, cv, sv, rfl, sc, nd, cq, bn, ht, es, q⟩
  show run (t__law_walked K (spWaiting K) (spNearest K) (spMay K) (spFar K)) [some (.ref t), some (.ref c), some (.int now), some (.ref b), some (.ref a), some (.ref tv), none, none, none, none, none, none, none, none, none] H Q
  have w5 := sc.wf.l
  have l10 := cq.l
  unfold t__law_walked
  walk_at "sx"
  refine g_CE (RR := fun H x w => WnAt K H x w) sc.hW sc.w (fun H H' x r h k => h.keep k noT0) (fun i H' acc => ∃ (ps : List Addr) (kvs : List (Key × V)), acc = ps.map V.ref ∧ EI (fun p kv => Tup H' p [kV kv.1, kv.2]) ps kvs ∧ EI (KwAt K H') kvs (ws.take i)) (fun _ _ _ _ => ⟨[], [], rfl, .nil, .nil⟩) ?_ ?_
  · rintro L i x w H1 acc R R0 nL hw k eL hx ⟨ps, kvs, rfl, e1, e2⟩ hR _
    have hx' := hx
    obtain ⟨p, tk, rfl, tp, utk⟩ := hx
    walk_at "sx"
    refine g_ixT tp (at_lit 0 rfl rfl) ⟨by walk_at "sz", fun z H2 n2 k2 t2 => hR _ _ k2 (by rw [List.length_map, e1.length, e2.length, List.length_take]; exact len_lt (by omega)) fun H3 k3 => ?_⟩
    have eL2 := k2 _ _ nin0 eL
    refine ⟨ps ++ [z], kvs ++ [(Sum.inr w.n, .ref p)], by rw [List.map_append]; rfl, ?_, ?_⟩
    · exact ei_snoc (R := fun p (kv : Key × V) => Tup H3 p [kV kv.1, kv.2]) (t2.keep k3 (noTup1 eL2 _ _ t2)) (e1.mono fun _ _ h => (h.keep k2 nin0).keep k3 (noTup1 eL2 _ _ (h.keep k2 nin0)))
    · rw [List.take_succ, hw]
      exact ei_snoc (R := KwAt K H3) ⟨rfl, (hx'.keep k2 noT0).keep k3 (noT1 eL2)⟩ (kw_keep (kw_keep e2 k2 noT0) k3 (noT1 eL2))
  rintro L H1 acc nL k1 eL ⟨ps, kvs, rfl, e1, e2⟩
  rw [List.take_length] at e2
  refine ⟨L, ps, kvs, rfl, lst_sq eL, paired_of (e1.mono fun _ _ h => h.sq), fun d H2 n2 k2 f2 => ?_⟩
  rw [merge_nodup _ _ (by
    rw [List.nil_append, kw_keys e2]
    exact List.pairwise_map.mpr (nd.imp fun hne e => hne (by injection e))), List.nil_append] at f2
  walk_at "sx"
  refine ⟨by walk_at "sz", fun l H3 n3 k3 f3 => ?_⟩
  walk_at "sx"
  have k03 := k1.trans (k2.trans k3)
  have nd' : H d = none := k1.free nin0 n2
  have nl : H l = none := (k1.trans k2).free nin0 n3
  have f23 := k3 _ _ nin0 f2
  have ndl : d ≠ l := ne_of_none f2 n3
  have sc3 := sc.keep0 k03
  have ht3 := k03 _ _ nin0 ht
  have es3 : EI (SnAt H3) sv (fin T D now cs ws).sn := sn_keep es k03 noT0
  have hS : ∀ {x}, x ∈ [l, d] ↔ x = l ∨ x = d := by intro x; simp
  have past : ∀ {H'}, Keep [l, d] H3 H' → Keep [] H H' := fun k => k03.pastL k fun p hp => by
    rcases hS.mp hp with rfl | rfl
    · exact nl
    · exact nd'
  have w1 : ∀ {H' H''}, Keep [l] H' H'' → Keep [l, d] H' H'' := fun k => k.wide fun x hx => hS.mpr (.inl (List.mem_singleton.mp hx))
  have w2 : ∀ {H' H''}, Keep [d] H' H'' → Keep [l, d] H' H'' := fun k => k.wide fun x hx => hS.mpr (.inr (List.mem_singleton.mp hx))
  have ntv : tv ∉ [l, d] := fun h => by
    rcases hS.mp h with rfl | rfl
    · rw [nl] at ht; cases ht
    · rw [nd'] at ht; cases ht
  refine g_FEs (RR := fun H x s => SnAt H x s) [l, d] (.inl ht3) ntv es3 (fun H' x r h k => ?_) (fun j σ H' => ∃ (m : Nat) (st : St) (y6 y8 y9 y10 y11 y12 y13 y14 : Option V), σ = [some (.ref t), some (.ref c), some (.int now), some (.ref d), some (.ref a), some (.ref tv), y6, some (.ref l), y8, y9, y10, y11, y12, y13, y14] ∧ WD K T D now cs ws d l j m st H')
    ⟨11, ⟨ws, [], []⟩, _, _, _, _, _, _, _, _, rfl, f3, ⟨kvs, f23, kw_keep e2 (k2.trans k3) noT0⟩, ⟨sc.wf, nd, List.nodup_nil, fun _ h => (List.not_mem_nil h).elim, Nat.le_refl _, fun _ h => (List.not_mem_nil h).elim⟩, by simp, rfl, rfl⟩ ?_ ?_
  · obtain ⟨p, rfl, tp⟩ := h
    exact ⟨p, rfl, tp.keep k fun hm => by
      rcases hS.mp hm with rfl | rfl
      · exact tp.neL f3 rfl
      · exact tp.neD f23 rfl⟩
  · rintro j x s σ H4 hj k4 hx ⟨m, st, y6, y8, y9, y10, y11, y12, y13, y14, rfl, wd⟩
    obtain ⟨p, rfl, tp⟩ := id hx
    refine g_tup tp rfl ?_
    walk_at "sx"
    refine ⟨_, _, rfl, _, _, rfl, _, _, rfl, rfl, ?_⟩
    unfold t__law_walked_b1
    walk_at "sx"
    obtain ⟨kvs, g1, g2⟩ := wd.s2
    have bn' : ByName (st.ws.map Wn.n) := by rw [wd.nm]; exact bn
    have okw := wd.ok.wf
    have u5 := okw.l
    refine by_names g1 g2 wd.ok.nd bn' u5 fun sL H5 xs n5 k5 e5 f5 => ?_
    walk_at "sx"
    have sc5 := (sc.keep0 (past k4)).keep0 k5
    refine ⟨sL, a, xs, cv, st.ws, cs, rfl, .inl e5, f5, wq_of okw, sc5.hA, sc5.a, cq, fun f H6 n6 k6 e6 => ?_⟩
    have z1 := (k5.trans k6) _ _ nin0 wd.s1
    refine g_CE (RR := fun _ (x : V) (y : Str) => x = V.str y) (.inl e6) (ei_map V.str (fun _ => rfl) _) (fun _ _ _ _ h _ => h) (fun i H' acc => acc = (((waitN st.ws cs).take i).filter fun y => decide (y ∉ st.lk)).map V.str) (fun _ _ _ _ => rfl) ?_ ?_
    · rintro L2 i _ y H7 acc R R0 nL2 hy k7 eL2 rfl rfl hR hR0
      walk_at "sx"
      refine g_notinS (k7 _ _ nin0 z1) ⟨_, rfl, ?_⟩
      have nx := flt_next (p := fun y => decide (y ∉ st.lk)) hy
      have lw : (waitN st.ws cs).length ≤ 10 := by
        have := ord_len (cs := cs) (ws := st.ws) (lk := [])
        unfold ordN at this
        rw [List.filter_eq_self.mpr fun y _ => by simp] at this
        omega
      by_cases h : y ∉ st.lk
      · rw [decide_eq_true h, if_pos rfl]
        rw [if_pos (decide_eq_true h)] at nx
        refine hR _ _ (Keep.refl _ _) (by
          rw [List.length_map]
          refine len_lt ?_
          have := flt_len (p := fun y => decide (y ∉ st.lk)) (l := waitN st.ws cs) (i := i)
          omega) fun H8 _ => ?_
        rw [nx, List.map_append]
        rfl
      · rw [decide_eq_false h, if_neg (by decide)]
        rw [if_neg (by simpa using h), List.append_nil] at nx
        refine hR0 _ (Keep.refl _ _) ?_
        rw [nx]
    rintro o H7 acc nO k7 eO rfl
    rw [List.take_length] at eO
    walk_at "sx"
    have z2 := k7 _ _ nin0 z1
    have nlo : l ≠ o := ne_of_none z1 nO
    have k57 := k6.trans k7
    have k47 := k5.trans k57
    have scW : Sc K H7 T D cs st.ws t c sL a xs cv := ⟨(sc5.keep0 k57).hT, (sc5.keep0 k57).hC, .inl (k57 _ _ nin0 e5), wns_keep f5 k57 noT0, okw, (sc5.keep0 k57).hA, (sc5.keep0 k57).a, sc.cp, sc.l, sc.nd⟩
    have nsl : sL ≠ l := (ne_of_none wd.s1 n5).symm
    have nso : sL ≠ o := ne_of_none (k6 _ _ nin0 e5) nO
    have nal : a ≠ l := fun e => by obtain ⟨u, hu⟩ := sc.hA.there; rw [e, nl] at hu; cases hu
    have nao : a ≠ o := fun e => by obtain ⟨u, hu⟩ := (sc5.keep0 k6).hA.there; rw [e, nO] at hu; cases hu
    have nsL : sL ∉ [l, o] := fun h => by
      rcases List.mem_cons.mp h with h | h
      · exact nsl h
      · exact nso (List.mem_singleton.mp h)
    have naL : a ∉ [l, o] := fun h => by
      rcases List.mem_cons.mp h with h | h
      · exact nal h
      · exact nao (List.mem_singleton.mp h)
    have ndo : d ≠ o := ne_of_none ((k5.trans k6) _ _ nin0 g1) nO
    refine ⟨fun m' σ H' => ∃ (st' : St) (y12 : Option V), σ = [some (.ref t), some (.ref c), some (.int now), some (.ref d), some (.ref a), some (.ref tv), some (.str s.b), some (.ref l), some (.str s.a), some (sV s.l), some (.ref sL), some (.ref o), y12, y13, y14] ∧ Keep [l, o] H7 H' ∧ st'.ws = st.ws ∧
      H' l = some (.lst (st'.lk.map V.str)) ∧ H' o = some (.lst ((ordN cs st.ws st'.lk).map V.str)) ∧ StOk2 T cs st' ∧ st'.sn = (fin T D now cs ws).sn.take j ∧ runS T D now cs m' st' = fin T D now cs ws, ⟨m, st, _, rfl, Keep.refl _ _, rfl, z2, eO, wd.ok, wd.sn, wd.run⟩, ?_⟩
    rintro m' σ H8 ⟨st', y12, rfl, k8, hw, h1, h2, ok', hsn, hrun⟩
    walk_at "sx"
    obtain ⟨m2, rfl, nm, hnx, hcase⟩ := turn_is hrun hsn hj
    have hnx0 := hnx
    rw [hw] at hnx hcase
    have NT : NoT [l, o] H7 := fun x hx => by
      rcases List.mem_cons.mp hx with rfl | hx
      · exact .inr ⟨_, z2⟩
      · rw [List.mem_singleton.mp hx]; exact .inr ⟨_, eO⟩
    have sc8 := scW.keep k8 NT nsL naL
    have ho := ord_next sc.nd hnx
    refine ⟨by walk_at "sz", fun e0 H9 n9 k9 f9 => ne_nilX (k9 _ _ nin0 h2) (fun y hy => ?_) f9 ⟨_, rfl, ?_⟩⟩
    · obtain ⟨x, hx, rfl⟩ := List.mem_map.mp (wait_mem (List.mem_filter.mp hy).1)
      exact (cq.nm x hx).1
    have sc9 := sc8.keep0 k9
    rw [ho, if_pos (by rfl)]
    walk_at "sx"
    rw [ho] at h2
    refine g_ixL (k9 _ _ nin0 h2) (at_lit 0 rfl rfl) (g_ne rfl ?_)
    rw [dec_strV]
    rcases hcase with ⟨hch, hne⟩ | ⟨wn, hch, rfl⟩
    · rw [decide_eq_false (fun e => hne e.symm)]
      walk_at "sx"
      refine ⟨fun σ' H' => ∃ (st' : St) (y12 : Option V), σ' = [some (.ref t), some (.ref c), some (.int now), some (.ref d), some (.ref a), some (.ref tv), some (.str s.b), some (.ref l), some (.str s.a), some (sV s.l), some (.ref sL), some (.ref o), y12, y13, y14] ∧ Keep [l, o] H7 H' ∧ st'.ws = st.ws ∧
        H' l = some (.lst (st'.lk.map V.str)) ∧ H' o = some (.lst ((ordN cs st.ws st'.lk).map V.str)) ∧ StOk2 T cs st' ∧ st'.sn = (fin T D now cs ws).sn.take j ∧ runS T D now cs m2 st' = fin T D now cs ws, fun σ' H' h => ⟨m2, Nat.lt_succ_self _, h⟩, ?_⟩
      refine g_ixL (k9 _ _ nin0 h2) (at_lit 0 rfl rfl) ⟨t, c, sL, a, now, nm, T, D, cs, st.ws, xs, cv, rfl, sc9, (next_mem hnx).1, fun HA kA => ?_⟩
      rw [near_none (chosen_none.mp hch)]
      dsimp only
      rw [if_neg (by show ¬ (!decide (V.non = V.non)) = true; simp)]
      unfold t__law_walked_r1
      walk_at "sx"
      have h1A := (k9.trans kA) _ _ nin0 h1
      have h2A := (k9.trans kA) _ _ nin0 h2
      have lo := ord_len (cs := cs) (ws := st.ws) (lk := st'.lk)
      rw [ho] at lo
      refine ⟨.inl ⟨rfl, _, .inl (.inl h1A)⟩, .inl ⟨rfl, _, .inl (.inl h2A)⟩, ?_⟩
      refine g_popAt (k := 0) h2A rfl (by simp) (by rw [List.length_map]; omega) rfl fun HB kB eB => ?_
      have h1B := kB _ _ (nin1 nlo) h1A
      refine g_append h1B (by rw [List.length_map]; exact len_lt (by have := lk_lt cq ok' hnx0; omega)) fun HC kC eC => ?_
      have e0 : stepS T D now cs nm st' = ⟨st'.ws, st'.lk ++ [nm], st'.sn⟩ := by unfold stepS; rw [hw, hch]
      have ok2 := step_ok (D := D) (now := now) cq ok' hnx0
      rw [runS_some hnx0] at hrun
      rw [e0] at ok2 hrun
      refine ⟨⟨st'.ws, st'.lk ++ [nm], st'.sn⟩, _, rfl, ?_, hw, by rw [eC, List.map_append]; rfl, kC _ _ (nin1 nlo.symm) eB, ok2, hsn, hrun⟩
      exact k8.trans ((k9.trans kA).all.trans ((kB.wide fun x hx => by rw [List.mem_singleton.mp hx]; simp).trans (kC.wide fun x hx => by rw [List.mem_singleton.mp hx]; simp)))
    · rw [decide_eq_true rfl]
      walk_at "sx"
      unfold t__law_walked_r5
      walk_at "sx"
      have hm := (next_mem hnx).1
      obtain ⟨e, hfe, hem, hen⟩ := found_of hm
      have hpl : placeOf cs nm = e.p := by unfold placeOf; rw [hfe]; rfl
      obtain ⟨w, hwm, rfl, hmay, hnear⟩ := near_some hch
      refine g_CE (RR := ClAt) sc9.hA sc9.a (fun H H' x r h k => h.keep k noT0) (fun i H' acc => acc = ((cs.take i).filter (isN nm)).map fun c => V.str c.p) (fun _ _ _ _ => rfl) ?_ ?_
      · rintro L2 i x x' HA acc R R0 nL2 hc kA eL2 ⟨p', rfl, tp'⟩ rfl hR hR0
        walk_at "sx"
        refine g_ixT tp' (at_lit 0 rfl rfl) (g_eq rfl ⟨_, rfl, ?_⟩)
        rw [dec_strV]
        have nx := flt_next (p := isN nm) hc
        by_cases h : x'.n = nm
        · rw [decide_eq_true h, if_pos rfl]
          rw [if_pos (show isN nm x' = true from decide_eq_true h)] at nx
          refine g_ixT tp' (at_lit 1 rfl rfl) (hR _ _ (Keep.refl _ _) (by rw [List.length_map]; exact len_lt (by have := flt_len (p := isN nm) (l := cs) (i := i); omega)) fun H5 _ => ?_)
          rw [nx, List.map_append]
          rfl
        · rw [decide_eq_false h, if_neg (by decide)]
          rw [if_neg (show ¬ isN nm x' = true from fun z => h (of_decide_eq_true z)), List.append_nil] at nx
          refine hR0 _ (Keep.refl _ _) ?_
          rw [nx]
      rintro L2 HA acc nL2 kA eL2 rfl
      rw [List.take_length] at eL2
      have e00 : ((cs.filter (isN nm)).map fun c => V.str c.p)[0]? = some (.str e.p) := by
        rw [List.getElem?_map, ← List.head?_eq_getElem?, List.head?_filter, hfe]
        rfl
      refine g_ixL eL2 (at_lit 0 rfl e00) ?_
      walk_at "sx"
      refine ⟨by walk_at "sz", fun e1 HB nB kB fB => eq_nilX ((k9.trans (kA.trans kB)) _ _ nin0 h2) (fun y hy => ?_) fB ⟨_, rfl, ?_⟩⟩
      · rw [← ho] at hy
        obtain ⟨x, hx, rfl⟩ := List.mem_map.mp (wait_mem (List.mem_filter.mp hy).1)
        exact (cq.nm x hx).1
      rw [if_neg (by simp)]
      have kAB := kA.trans kB
      have k9B := k9.trans kAB
      have scB := sc9.keep0 kAB
      have ndS : d ∉ [l, o] := fun h => by
        rcases List.mem_cons.mp h with h | h
        · exact ndl h
        · exact ndo (List.mem_singleton.mp h)
      have gB : HB d = some (.dK kvs) := k9B _ _ nin0 (k8 _ _ ndS (k47 _ _ nin0 g1))
      have kwB : EI (KwAt K HB) kvs st.ws := kw_keep (kw_keep (kw_keep g2 k47 noT0) k8 NT) k9B noT0
      obtain ⟨v, hv, hvw⟩ := kw_get kwB wd.ok.nd w hwm
      have dg : ∀ {H'}, Keep [] HB H' → DGet H' d (.str w.n) (some v) := fun k => by
        have := DGet.k (k := (Sum.inr w.n : Key)) (k _ _ nin0 gB)
        rw [hv] at this
        exact this
      unfold tDNotIn
      walk_at "sx"
      refine ⟨d, _, rfl, dg (Keep.refl _ _), ?_⟩
      rw [if_neg (by simp)]
      refine ⟨d, v, rfl, dg (Keep.refl _ _), a, cv, cs, v, w, nm, rfl, scB.hA, scB.a, l10, hvw, okw.k w hwm, sc.nd, okw.t w hwm, hm, fun HC kC => ⟨_, _, rfl, rfl, _, rfl, ?_⟩⟩
      rw [hmay, if_neg (by simp)]
      unfold t__law_walked_r4
      walk_at "sx"
      have scC := scB.keep0 kC
      refine ⟨d, v, rfl, dg kC, t, c, now, v, e.p, T, D, w, rfl, scC.hT, scC.hC, hvw.keep kC noT0, okw.pl w hwm, sc.cp _ hem, ?_⟩
      walk_at "sx"
      refine ⟨t, c, sL, a, now, nm, T, D, cs, st.ws, xs, cv, rfl, scC, hm, fun HD kD => ?_⟩
      rw [hnear, hpl]
      refine ne_mV ⟨_, rfl, ?_⟩
      rw [if_neg (by simp)]
      unfold t__law_walked_r3
      walk_at "sx"
      have kCD := kC.trans kD
      have hvD := hvw.keep kCD noT0
      obtain ⟨pw, tk, rfl, tpw, utk⟩ := hvD
      have hlo : leftOf st.ws w.n = tkN w := by
        unfold leftOf
        rw [find_nd wd.ok.nd hwm]
        rfl
      have tk0 : tkV w.k ≠ [] := by rcases w.k with _ | ⟨_ | _, c⟩ <;> (intro z; cases z)
      have tkl : (tkV w.k).length ≤ 2 := by rcases w.k with _ | ⟨_ | _, c⟩ <;> simp [tkV]
      refine ⟨d, _, rfl, dg kCD, g_ixT tpw (at_lit 5 rfl rfl) ⟨by walk_at "sz", fun nt HE nE kE tE => ?_⟩⟩
      refine ⟨tk, nt, tkV w.k, [.non], rfl, rfl, sqt_keep utk kE noT0, tE.sq, tk0, by simp, len_le (by simp; omega), fun nt2 HF nF kF tF => ?_⟩
      have e2' : atI (tkV w.k ++ [V.non]) 1 = some (sV (tkN w)) := by
        unfold tkN
        rcases w.k with _ | ⟨_ | _, c⟩ <;> rfl
      refine g_ixT tF e2' ?_
      rw [hlo]
      refine ne_sV ⟨_, rfl, ?_⟩
      rw [if_neg (by simp)]
      unfold t__law_walked_r2
      walk_at "sx"
      have kBF := kCD.trans (kE.trans kF)
      have k9F := k9B.trans kBF
      have h1F := k9F _ _ nin0 h1
      refine ⟨.inl ⟨rfl, _, .inl (.inl h1F)⟩, g_append h1F (by rw [List.length_map]; exact len_lt (by have := lk_lt cq ok' hnx0; omega)) fun HG kG eG => ?_⟩
      have nF' : NoT [l] HF := noT1 h1F
      have gG := kG _ _ (nin1 ndl) (kBF _ _ nin0 gB)
      have kwG := kw_keep (kw_keep kwB kBF noT0) kG nF'
      have tpG := (tpw.keep (kE.trans kF) nin0).keep kG (nF'.tup _ _ (tpw.keep (kE.trans kF) nin0))
      have dgG : DGet HG d (.str w.n) (some (.ref pw)) := by
        have := DGet.k (k := (Sum.inr w.n : Key)) gG
        rw [hv] at this
        exact this
      walk_at "sx"
      refine ⟨d, _, rfl, dgG, g_slT tpG fun a1 HH kH tH => ?_⟩
      have c1 : cutV [V.str w.n, .str w.h, .str w.p, .str w.l, .int w.m, .ref tk] none (some 5) = [V.str w.n, .str w.h, .str w.p, .str w.l, .int w.m] := rfl
      rw [c1] at tH
      refine ⟨by walk_at "sz", fun tt HI nI kI tI => ⟨by walk_at "sz", fun t1 HJ nJ kJ tJ => g_addT ((tH.keep kI nin0).keep kJ nin0) tJ (by walk_at "sz") fun nw HK kK tK => ?_⟩⟩
      have kGK := kH.trans (kI.trans (kJ.trans kK))
      have gK := kGK _ _ nin0 gG
      have kwK := kw_keep kwG kGK noT0
      have lkv : kvs.length ≤ 5 := by rw [g2.length]; exact u5
      refine ⟨d, _, rfl, DPut.k (k := (Sum.inr w.n : Key)) gK (len_lt (by omega)), ?_⟩
      have kD' : Keep [d] HK (upd HK d (.dK (putK kvs (Sum.inr w.n) (.ref nw)))) := Keep.set
      have e0 : stepS T D now cs nm st' = ⟨sendW w.n nm st.ws, st'.lk ++ [nm], st'.sn ++ [⟨nm, w.n, leftOf st.ws w.n⟩]⟩ := by unfold stepS; rw [hw, hch]
      have ok2 := step_ok (D := D) (now := now) cq ok' hnx0
      rw [runS_some hnx0] at hrun
      rw [e0] at ok2 hrun
      refine ⟨?_, m2, ⟨sendW w.n nm st.ws, st'.lk ++ [nm], st'.sn ++ [⟨nm, w.n, leftOf st.ws w.n⟩]⟩, _, _, _, _, _, _, _, _, rfl, ?_, ⟨_, upd_same, ?_⟩, ok2, ?_, hrun, ?_⟩
      · have k48 : Keep [l, d] H4 H8 := k47.all.join k8 fun x hx => by
          rcases List.mem_cons.mp hx with rfl | hx
          · exact .inl (hS.mpr (.inl rfl))
          · rw [List.mem_singleton.mp hx]
            refine .inr ?_
            cases hx4 : H4 o with
            | none => rfl
            | some u => have := (k5.trans k6) _ _ nin0 hx4; rw [nO] at this; cases this
        exact k4.trans (k48.trans (k9F.all.trans ((w1 kG).trans (kGK.all.trans (w2 kD')))))
      · rw [kD' _ _ (nin1 ndl.symm) (kGK _ _ nin0 eG), List.map_append]
        rfl
      · have tK' : WnAt K HK (.ref nw) (toW nm w) := ⟨nw, tt, rfl, tK, ((tI.keep kJ nin0).keep kK nin0).sq⟩
        obtain ⟨p1, k1', x1, t1', u1⟩ := tK'
        have hvK : WnAt K (upd HK d (.dK (putK kvs (Sum.inr w.n) (.ref nw)))) (.ref nw) (toW nm w) := ⟨p1, k1', x1, t1'.keep kD' (nin1 (t1'.neD gK)), sqt_keepD u1 gK kD'⟩
        refine kw_put (kw_keepD kwK gK kD') (List.mem_map.mpr ⟨w, hwm, rfl⟩) fun u hu eu => ?_
        have : u = w := by
          have f1 := find_nd wd.ok.nd hu
          have f2 := find_nd wd.ok.nd hwm
          rw [eu, f2] at f1
          exact (Option.some.inj f1).symm
        rw [this]
        exact hvK
      · show st'.sn ++ _ = _
        rw [List.take_succ, hj, hsn]
        rfl
      · show (sendW w.n nm st.ws).map Wn.n = _
        rw [sendW_names]
        exact wd.nm
  · rintro σ H4 k4 ⟨m, st, y6, y8, y9, y10, y11, y12, y13, y14, rfl, wd⟩
    unfold t__law_walked_r6
    walk_at "sx"
    obtain ⟨kvs, g1, g2⟩ := wd.s2
    have hsn : (runS T D now cs m st).sn = st.sn := by rw [wd.run, wd.sn, List.take_length]
    have hws : (fin T D now cs ws).ws = st.ws := by rw [← wd.run]; exact run_same m st hsn
    rw [hws] at q
    refine by_names g1 g2 wd.ok.nd (by rw [wd.nm]; exact bn) wd.ok.wf.l fun p H5 xs n5 k5 e5 f5 => q p H5 xs ((past k4).trans k5) ((past k4).free nin0 n5) e5 f5

/-! ### the law of what is promised -/
def atB (w : Wn) : Bool := match w.k with
  | some (true, _) => true
  | _ => false
theorem flt_map {f : Wn → Wn} : ∀ {ws : List Wn}, (∀ w ∈ ws, f w = w ∨ (atB w = false ∧ atB (f w) = false)) → (ws.map f).filter atB = ws.filter atB
  | [], _ => rfl
  | w :: ws, h => by
    have ih := flt_map fun u hu => h u (List.mem_cons_of_mem _ hu)
    rw [List.map_cons, List.filter_cons, List.filter_cons, ih]
    rcases h w List.mem_cons_self with e | ⟨e1, e2⟩
    · rw [e]
    · rw [e1, e2]
      rfl
theorem may_at {cs : List Cl} {w : Wn} {c : Str} (h : mayB cs w c = true) : atB w = false := by
  unfold mayB at h
  unfold atB
  rcases hk : w.k with _ | ⟨_ | _, d⟩
  · rfl
  · rfl
  · rw [hk] at h; cases h
theorem beh_at {T : Tn} {D : Tab} {cs : List Cl} {ws : List Wn} : (behL T D cs ws).filter atB = ws.filter atB := by
  unfold behL
  refine flt_map fun w _ => ?_
  by_cases h : cutB T D cs w = true
  · rw [if_pos h]
    refine .inr ⟨?_, rfl⟩
    unfold cutB at h
    unfold atB
    rcases hk : w.k with _ | ⟨_ | _, d⟩
    · rfl
    · rfl
    · rw [hk] at h; cases h
  · rw [if_neg h]
    exact .inl rfl
theorem one_w {ws : List Wn} (nd : (ws.map Wn.n).Nodup) {u w : Wn} (hu : u ∈ ws) (hw : w ∈ ws) (e : u.n = w.n) : u = w := by
  have f1 := find_nd nd hu
  have f2 := find_nd nd hw
  rw [e, f2] at f1
  exact (Option.some.inj f1).symm
theorem send_at {T : Tn} {D : Tab} {now : Int} {cs : List Cl} {ws : List Wn} {nm wn : Str} (nd : (ws.map Wn.n).Nodup) (h : chosenN T D now cs ws nm = some wn) : (sendW wn nm ws).filter atB = ws.filter atB := by
  obtain ⟨w, hw, hn, ho⟩ := chosen_some h
  unfold sendW
  refine flt_map fun u hu => ?_
  by_cases e : u.n = wn
  · rw [if_pos e, one_w nd hu hw (e.trans hn.symm)]
    exact .inr ⟨may_at ho.1, rfl⟩
  · rw [if_neg e]
    exact .inl rfl
theorem run_at {T : Tn} {D : Tab} {now : Int} {cs : List Cl} (cq : CQ cs) : ∀ (m : Nat) {st : St}, StOk2 T cs st → (runS T D now cs m st).ws.filter atB = st.ws.filter atB
  | 0, _, _ => rfl
  | m + 1, st, h => by
    cases hn : nextN cs st.ws st.lk with
    | none => rw [runS_none hn]
    | some nm =>
      rw [runS_some hn, run_at cq m (step_ok cq h hn)]
      unfold stepS
      cases hc : chosenN T D now cs st.ws nm with
      | none => rfl
      | some wn => exact send_at h.nd hc
theorem beh_srv {T : Tn} {D : Tab} {cs : List Cl} {ws : List Wn} : ((behL T D cs ws).filterMap tkN).Sublist (ws.filterMap tkN) := by
  unfold behL
  rw [List.filterMap_map]
  induction ws with
  | nil => exact .slnil
  | cons w ws ih =>
    rw [List.filterMap_cons, List.filterMap_cons]
    by_cases h : cutB T D cs w = true
    · have e : (tkN ∘ fun w => if cutB T D cs w then freedW w else w) w = none := by
        show tkN (if cutB T D cs w then freedW w else w) = none
        rw [if_pos h]
        rfl
      rw [e]
      cases tkN w with
      | none => exact ih
      | some c => exact ih.trans (List.sublist_cons_self _ _)
    · have e : (tkN ∘ fun w => if cutB T D cs w then freedW w else w) w = tkN w := by
        show tkN (if cutB T D cs w then freedW w else w) = tkN w
        rw [if_neg h]
      rw [e]
      cases tkN w with
      | none => exact ih
      | some c => exact ih.cons₂ c
theorem srv_send {wn nm : Str} : ∀ {ws : List Wn}, (ws.map Wn.n).Nodup → (ws.filterMap tkN).Nodup → nm ∉ ws.filterMap tkN → ((sendW wn nm ws).filterMap tkN).Nodup ∧ ∀ x ∈ (sendW wn nm ws).filterMap tkN, x = nm ∨ x ∈ ws.filterMap tkN
  | [], _, _, _ => ⟨List.nodup_nil, fun _ h => (List.not_mem_nil h).elim⟩
  | w :: ws, nd, sd, hn => by
    rw [List.map_cons, List.nodup_cons] at nd
    have sd' : (ws.filterMap tkN).Nodup := by
      refine sd.sublist ?_
      rw [List.filterMap_cons]
      cases tkN w with
      | none => exact List.Sublist.refl _
      | some c => exact List.sublist_cons_self _ _
    have sub : ∀ x ∈ ws.filterMap tkN, x ∈ (w :: ws).filterMap tkN := fun x hx => by
      rw [List.filterMap_cons]
      cases tkN w with
      | none => exact hx
      | some c => exact List.mem_cons_of_mem _ hx
    have hn' : nm ∉ ws.filterMap tkN := fun h => hn (sub nm h)
    obtain ⟨i1, i2⟩ := srv_send (wn := wn) nd.2 sd' hn'
    by_cases e : w.n = wn
    · have rest : sendW wn nm ws = ws := by
        unfold sendW
        conv => rhs; rw [← List.map_id ws]
        exact List.map_congr_left fun u hu => if_neg fun z => nd.1 (by rw [e, ← z]; exact List.mem_map.mpr ⟨u, hu, rfl⟩)
      have hd : sendW wn nm (w :: ws) = toW nm w :: ws := by
        show (if w.n = wn then toW nm w else w) :: sendW wn nm ws = _
        rw [if_pos e, rest]
      rw [hd, List.filterMap_cons]
      show (nm :: ws.filterMap tkN).Nodup ∧ ∀ x ∈ nm :: ws.filterMap tkN, _
      exact ⟨List.nodup_cons.mpr ⟨hn', sd'⟩, fun x hx => (List.mem_cons.mp hx).elim .inl fun h => .inr (sub x h)⟩
    · have hd : sendW wn nm (w :: ws) = w :: sendW wn nm ws := by
        show (if w.n = wn then toW nm w else w) :: sendW wn nm ws = _
        rw [if_neg e]
      rw [hd, List.filterMap_cons]
      rw [List.filterMap_cons] at hn sd sub ⊢
      cases hk : tkN w with
      | none =>
        rw [hk] at hn sd sub
        exact ⟨i1, fun x hx => (i2 x hx).imp id (sub x)⟩
      | some c =>
        rw [hk] at hn sd sub
        obtain ⟨s1, s2⟩ := List.nodup_cons.mp sd
        refine ⟨List.nodup_cons.mpr ⟨fun h => ?_, i1⟩, fun x hx => ?_⟩
        · rcases i2 c h with h | h
          · exact hn (by rw [h]; exact List.mem_cons_self)
          · exact s1 h
        · rcases List.mem_cons.mp hx with h | h
          · exact .inr (by rw [h]; exact List.mem_cons_self)
          · exact (i2 x h).imp id (sub x)
theorem run_srv {T : Tn} {D : Tab} {now : Int} {cs : List Cl} (cq : CQ cs) : ∀ (m : Nat) {st : St}, StOk2 T cs st → (st.ws.filterMap tkN).Nodup → ((runS T D now cs m st).ws.filterMap tkN).Nodup
  | 0, _, _, h => h
  | m + 1, st, ok, h => by
    cases hn : nextN cs st.ws st.lk with
    | none => rw [runS_none hn]; exact h
    | some nm =>
      rw [runS_some hn]
      refine run_srv cq m (step_ok cq ok hn) ?_
      have hw := (wait_iff.mp (List.mem_of_find?_eq_some hn)).2
      unfold stepS
      cases hc : chosenN T D now cs st.ws nm with
      | none => exact h
      | some wn => exact (srv_send ok.nd h hw).1
theorem wf_some {T : Tn} {cs : List Cl} {ws us : List Wn} (h : WF T cs ws) (s : us.Sublist ws) : WF T cs us :=
  ⟨Nat.le_trans s.length_le h.l, fun w hw => h.pl w (s.subset hw), fun w hw => h.k w (s.subset hw), fun w hw => h.t w (s.subset hw), fun w hw => h.nm w (s.subset hw)⟩
theorem tk_word (k : Option (Bool × Str)) : ∃ z, atI (tkV k) ((0 : Nat) : Int) = some (.str z) ∧ decide (z = "at") = (match k with | some (true, _) => true | _ => false) := by
  rcases k with _ | ⟨_ | _, nm⟩
  · exact ⟨"free", rfl, show decide ((Str.ofString "free") = "at") = false by decide +kernel⟩
  · exact ⟨"to", rfl, show decide ((Str.ofString "to") = "at") = false by decide +kernel⟩
  · exact ⟨"at", rfl, show decide ((Str.ofString "at") = "at") = true by decide +kernel⟩
theorem at_pick {K : PySem.W.Frag} {b : Addr} {wv : List V} {ws : List Wn} {H : Hp} {y0 y1 y2 y3 y4 y5 y6 y7 y8 y9 y10 y11 y12 y13 : Option V} {Q : VK} (hb : Sq H b wv) (ew : EI (WnAt K H) wv ws) (w5 : ws.length ≤ 5) (q : ∀ p H' xs, Keep [] H H' → H' p = some (.lst xs) → EI (WnAt K H') xs (ws.filter atB) → Q (.ref p) H') :
    CU K (gName 13) (tTest (tOp (uEq K false) (tOp (uIx K) (tOp (uIx K) (tVar 13) (tC (.int 5))) (tC (.int 0))) (tC (.str "at")))) (tVar 13) [13] [y0, y1, y2, y3, y4, y5, y6, y7, y8, y9, y10, y11, y12, y13] Q (.ref b) H := by
  refine g_CE (RR := fun H x w => WnAt K H x w) hb ew (fun H H' x r h k => h.keep k noT0) (fun i H' acc => EI (WnAt K H') acc ((ws.take i).filter atB)) (fun _ _ _ _ => .nil) ?_ ?_
  · rintro L i x w H1 acc R R0 nL hw k eL ⟨p, tk, rfl, tp, utk⟩ hacc hR hR0
    have hx : WnAt K H1 (.ref p) w := ⟨p, tk, rfl, tp, utk⟩
    have nx := flt_next (p := atB) hw
    obtain ⟨z, hz, hza⟩ := tk_word w.k
    walk_at "sx"
    refine g_ixT tp (at_lit 5 rfl rfl) (g_ixK utk hz (g_eq rfl ⟨_, rfl, ?_⟩))
    rw [dec_strV, hza]
    have fl := flt_len (p := atB) (l := ws) (i := i)
    cases hB : atB w with
    | true =>
      rw [hB] at nx
      rw [if_pos (show (match w.k with | some (true, _) => true | _ => false) = true from hB)]
      refine hR _ _ (Keep.refl _ _) (by rw [hacc.length]; exact len_lt (by omega)) fun H5 k5 => ?_
      rw [nx]
      exact ei_snoc (hx.keep k5 (noT1 eL)) (wns_keep hacc k5 (noT1 eL))
    | false =>
      rw [hB] at nx
      rw [if_neg (show ¬ (match w.k with | some (true, _) => true | _ => false) = true from by show ¬ atB w = true; rw [hB]; decide)]
      refine hR0 _ (Keep.refl _ _) ?_
      rw [nx]
      simpa using hacc
  · rintro L H1 acc nL k eL hacc
    rw [List.take_length] at hacc
    exact q L H1 acc k eL hacc
def spLaw (K : PySem.W.Frag) : Sp := fun vs H Q _ => ∃ (a : Addr) (ns : List Int), vs = [.ref a] ∧ Scr K H a (ns.map V.int) ∧ ns.length ≤ 63 ∧ ∀ H', Q (.bl true) H'
theorem rd_law (K : PySem.W.Frag) : ∀ vs H Q E, spLaw K vs H Q E → run (t_law K (spScene K) spShut (spCell K) spChart (spCut K) (spSend K) (spOne K) (spWalked K) (spWaiting K) (spNearest K)) (L2.start N_law vs) H Q := by
  rintro _ H Q _ ⟨a, ns, rfl, hS, hl, q⟩
  show run (t_law K (spScene K) spShut (spCell K) spChart (spCut K) (spSend K) (spOne K) (spWalked K) (spWaiting K) (spNearest K)) [some (.ref a), none, none, none, none, none, none, none, none, none, none, none, none, none] H Q
  unfold t_law
  walk_at "sx"
  refine ⟨a, ns, rfl, hS, fun p H1 T now ws cs t wa ca wv cv k1 ne ⟨tp, hT, hw, ew, hc, ec⟩ ok => ?_⟩
  refine g_tup tp rfl ?_
  walk_at "sx"
  refine ⟨_, _, rfl, _, _, rfl, _, _, rfl, _, _, rfl, rfl, ?_⟩
  walk_at "sx"
  refine ⟨a, 19, ns, rfl, (hS.keep0 k1).sq, by decide, fun c => ?_⟩
  walk_at "sx"
  refine ⟨t, c, T, rfl, hT, ok.t, fun sh H2 zs k2 hz lz => ?_⟩
  walk_at "sx"
  have wf0 : WF T cs ws := wf_of ok.t ok.c ok.w
  have cp := ok.c.p
  have c10 := ok.c.l
  have nd := ok.c.nd
  have cq : CQ cs := ⟨ok.c.l, fun c hc => ⟨ok.c.nm c hc, ok.t.nm _ (ok.c.p c hc)⟩⟩
  have bn : ByName (ws.map Wn.n) := by
    obtain ⟨ws0, e⟩ := ok.sw
    have := ok.w.nd
    rw [e] at this ⊢
    exact by_name this
  refine ⟨by walk_at "sz", fun em H3 n3 k3 t3 => ⟨by walk_at "sz", fun al H4 n4 k4 e4 => ?_⟩⟩
  have k34 := k3.trans k4
  have k24 := k2.trans k34
  refine g_FEs (RR := fun H x (zs : List Int) => ∃ p, x = V.ref p ∧ Tup H p (zs.map V.int)) (rs := [zs, []]) [] (.inl e4) nin0 (.cons ⟨sh, rfl, hz.keep k34 nin0⟩ (.cons ⟨em, rfl, t3.keep k4 nin0⟩ .nil)) (fun H' x r ⟨p, e, h⟩ k => ⟨p, e, h.keep k nin0⟩)
    (fun i σ H' => ∃ y6 y7 y8 y9 y10 y11 y12 y13, σ = [some (.ref a), some (.ref t), some (.int now), some (.ref wa), some (.ref ca), some (.ref sh), y6, y7, y8, y9, y10, y11, y12, y13]) ⟨_, _, _, _, _, _, _, _, rfl⟩ ?_ ?_
  · rintro i x zs' σ H5 hi k5 ⟨pz, rfl, tz⟩ ⟨y6, y7, y8, y9, y10, y11, y12, y13, rfl⟩
    walk_at "sx"
    unfold t_law_b2
    walk_at "sx"
    have k25 := k24.trans k5
    refine ⟨t, pz, T, zs', rfl, hT.keep k25 noTup0, ok.t, tz, fun c0 H6 D k6 ch ct => ?_⟩
    walk_at "sx"
    have k26 := k25.trans k6
    refine ⟨t, c0, ca, wa, wv, cv, T, D, cs, ws, rfl, hT.keep k26 noTup0, ch, .inl (k26 _ _ nin0 hw), wns_keep ew k26 noT0, wf0, .inl (k26 _ _ nin0 hc), cls_keep ec k26 noT0, cp, c10, nd, fun f H7 l1 l2 k7 n1 n2 nel hcut => ?_⟩
    obtain ⟨tf, ⟨v1, f1, e1⟩, v2, f2, e2⟩ := hcut
    refine g_tup tf rfl ?_
    walk_at "sx"
    refine ⟨_, _, rfl, _, _, rfl, rfl, ?_⟩
    walk_at "sx"
    have k27 := k26.trans k7
    have wfb : WF T cs (behL T D cs ws) := wf_beh wf0
    have wnd : ((behL T D cs ws).map Wn.n).Nodup := by rw [beh_names]; exact ok.w.nd
    have scb : Sc K H7 T D cs (behL T D cs ws) t c0 l2 ca v2 cv := ⟨hT.keep k27 noTup0, ch.keep k7, .inl f2, e2, wfb, .inl (k27 _ _ nin0 hc), cls_keep ec k27 noT0, cp, c10, nd⟩
    have rest0 := fin_rest (now := now) cq nd wfb wnd way_of_cut
    have fok := fin_ok (D := D) (now := now) cq wfb wnd
    refine ⟨t, c0, l2, ca, now, T, D, cs, behL T D cs ws, v2, cv, rfl, scb, wnd, cq, fun g H8 m1 m2 u1 u2 k8 o1 o2 nem tg d1 d2 d3 d4 => ?_⟩
    refine g_tup tg rfl ?_
    walk_at "sx"
    refine ⟨_, _, rfl, _, _, rfl, rfl, ?_⟩
    walk_at "sx"
    have sdb : ((behL T D cs ws).filterMap tkN).Nodup := ok.w.tn.sublist beh_srv
    have sdf : ((fin T D now cs (behL T D cs ws)).ws.filterMap tkN).Nodup := run_srv cq 11 ⟨wfb, wnd, List.nodup_nil, fun _ h => (List.not_mem_nil h).elim, Nat.le_refl _, fun _ h => (List.not_mem_nil h).elim⟩ sdb
    have sc8 := scb.keep0 k8
    refine ⟨l2, ca, v2, cv, behL T D cs ws, cs, rfl, sc8.hW, sc8.w, wfb.l, wfb.k, sc8.hA, sc8.a, c10, sdb, wfb.t, fun H9 k9 => ⟨true, rfl, ?_⟩⟩
    rw [if_neg (by decide)]
    have d9 := k9 _ _ nin0 d3
    have w9 := wns_keep d4 k9 noT0
    have sc9 := sc8.keep0 k9
    have wff := fok.wf
    refine ⟨m2, ca, u2, cv, (fin T D now cs (behL T D cs ws)).ws, cs, rfl, .inl d9, w9, wff.l, wff.k, sc9.hA, sc9.a, c10, sdf, wff.t, fun HA kA => ⟨true, rfl, ?_⟩⟩
    rw [if_neg (by decide)]
    unfold t_law_r3
    walk_at "sx"
    have scA := sc9.keep0 kA
    have k8A := k9.trans kA
    refine ⟨t, c0, l2, ca, m1, now, T, D, cs, behL T D cs ws, v2, cv, u1, rfl, scA, wnd, cq, by rw [beh_names]; exact bn, k8A _ _ nin0 d1, sn_keep d2 k8A noT0, fun r HB xs kB nB rB xB => ?_⟩
    have k8B := k8A.trans kB
    obtain ⟨lay1, lay2⟩ := wf_lay wff
    refine ne_list (lst_sq rB) (dp_wns xB) (lst_sq (k8B _ _ nin0 d3)) (dp_wns (wns_keep d4 k8B noT0)) lay1 lay2 ⟨_, rfl, ?_⟩
    rw [if_neg (by decide)]
    unfold t_law_r2
    walk_at "sx"
    have k2B := k27.trans (k8.trans k8B)
    refine at_pick (.inl (k2B _ _ nin0 hw)) (wns_keep ew k2B noT0) wf0.l fun r1 HC xs1 kC rC xC => ?_
    refine at_pick (.inl ((k8B.trans kC) _ _ nin0 d3)) (wns_keep d4 (k8B.trans kC) noT0) wff.l fun r2 HD xs2 kD rD xD => ?_
    have eat : (fin T D now cs (behL T D cs ws)).ws.filter atB = ws.filter atB := (run_at cq 11 (st := ⟨behL T D cs ws, [], []⟩) ⟨wfb, wnd, List.nodup_nil, fun _ h => (List.not_mem_nil h).elim, Nat.le_refl _, fun _ h => (List.not_mem_nil h).elim⟩).trans beh_at
    rw [eat] at xD
    obtain ⟨lay3, lay4⟩ := wf_lay (wf_some wf0 (List.filter_sublist (p := atB)))
    refine ne_list (lst_sq (kD _ _ nin0 rC)) (dp_wns (wns_keep xC kD noT0)) (lst_sq rD) (dp_wns xD) lay3 lay4 ⟨_, rfl, ?_⟩
    rw [if_neg (by decide)]
    unfold t_law_r1
    walk_at "sx"
    have kBD := kC.trans kD
    have scD := (scA.keep0 kB).keep0 kBD
    have k8D := k8B.trans kBD
    refine ⟨m2, ca, u2, cv, (fin T D now cs (behL T D cs ws)).ws, cs, rfl, .inl (k8D _ _ nin0 d3), wns_keep d4 k8D noT0, wq_of wff, scD.hA, scD.a, cq, fun o HE nE kE eE => ?_⟩
    have k5E := k6.trans (k7.trans (k8.trans (k8D.trans kE)))
    have scf : Sc K HE T D cs (fin T D now cs (behL T D cs ws)).ws t c0 m2 ca u2 cv := ⟨(scD.keep0 kE).hT, (scD.keep0 kE).hC, .inl ((k8D.trans kE) _ _ nin0 d3), wns_keep d4 (k8D.trans kE) noT0, wff, (scD.keep0 kE).hA, (scD.keep0 kE).a, cp, c10, nd⟩
    refine g_FEs (RR := fun _ (x : V) (y : Str) => x = V.str y) [] (.inl eE) nin0 (ei_map V.str (fun _ => rfl) _) (fun _ _ _ h _ => h) (fun i σ H' => ∃ y12 y13, σ = [some (.ref a), some (.ref t), some (.int now), some (.ref wa), some (.ref ca), some (.ref sh), some (.ref pz), some (.ref c0), some (.ref l1), some (.ref l2), some (.ref m1), some (.ref m2), y12, y13]) ⟨_, _, rfl⟩ ?_ ?_
    · rintro j _ nm σ HF hj kF rfl ⟨z12, z13, rfl⟩
      walk_at "sx"
      unfold t_law_b1
      walk_at "sx"
      have hnm := List.mem_of_getElem? hj
      refine ⟨t, c0, m2, ca, now, nm, T, D, cs, _, u2, cv, rfl, scf.keep0 kF, wait_mem hnm, fun HG kG => ?_⟩
      rw [near_none (rest0.1 nm hnm)]
      dsimp only
      rw [if_neg (by show ¬ (!decide (V.non = V.non)) = true; simp)]
      exact ⟨kF.trans kG, _, _, rfl⟩
    · rintro σ HF kF ⟨z12, z13, rfl⟩
      exact ⟨k5.trans (k5E.trans kF), _, _, _, _, _, _, _, _, rfl⟩
  · rintro σ H5 k5 ⟨y6, y7, y8, y9, y10, y11, y12, y13, rfl⟩
    unfold t_law_r4
    walk_at "sx"
    exact q _

theorem all_mk {P : Program} {w : World} {K : PySem.W.Frag} {h : Heap} {mg : Str → Option Value} {fa : Addr} (X : K.In h) (G : h.Ns mainGlobals mg) (hfa : mg "law" = some (.ref fa))
    {a_far : Addr} {od_far an_far : Option Addr} {sl_far : Array (Option Value)} {oc_far kV_far dc_far pm_far cd_far ct_far : Value}
    (ad_far : PySem.W.nsIn K mainGlobals "far" = some (some (.ref a_far)))
    (lo_far : K.lookup a_far = some ⟨oc_far, od_far, .func (PySem.W.fnOf "far" "far" (defArgs s_far_) (defBody s_far_) (defScope s_far_) .none kV_far dc_far pm_far an_far cd_far ct_far), sl_far⟩)
    (co_far : PySem.W.codeIn K cd_far "far" = true) (kp_far : PySem.W.keepIn K (.ref a_far) = true)
    {a_waiting : Addr} {od_waiting an_waiting : Option Addr} {sl_waiting : Array (Option Value)} {oc_waiting kV_waiting dc_waiting pm_waiting cd_waiting ct_waiting : Value}
    (ad_waiting : PySem.W.nsIn K mainGlobals "waiting" = some (some (.ref a_waiting)))
    (lo_waiting : K.lookup a_waiting = some ⟨oc_waiting, od_waiting, .func (PySem.W.fnOf "waiting" "waiting" (defArgs s_waiting_) (defBody s_waiting_) (defScope s_waiting_) .none kV_waiting dc_waiting pm_waiting an_waiting cd_waiting ct_waiting), sl_waiting⟩)
    (co_waiting : PySem.W.codeIn K cd_waiting "waiting" = true) (kp_waiting : PySem.W.keepIn K (.ref a_waiting) = true)
    {a_named : Addr} {od_named an_named : Option Addr} {sl_named : Array (Option Value)} {oc_named kV_named dc_named pm_named cd_named ct_named : Value}
    (ad_named : PySem.W.nsIn K mainGlobals "named" = some (some (.ref a_named)))
    (lo_named : K.lookup a_named = some ⟨oc_named, od_named, .func (PySem.W.fnOf "named" "named" (defArgs s_named_) (defBody s_named_) (defScope s_named_) .none kV_named dc_named pm_named an_named cd_named ct_named), sl_named⟩)
    (co_named : PySem.W.codeIn K cd_named "named" = true) (kp_named : PySem.W.keepIn K (.ref a_named) = true)
    {a_may_be_sent : Addr} {od_may_be_sent an_may_be_sent : Option Addr} {sl_may_be_sent : Array (Option Value)} {oc_may_be_sent kV_may_be_sent dc_may_be_sent pm_may_be_sent cd_may_be_sent ct_may_be_sent : Value}
    (ad_may_be_sent : PySem.W.nsIn K mainGlobals "may_be_sent" = some (some (.ref a_may_be_sent)))
    (lo_may_be_sent : K.lookup a_may_be_sent = some ⟨oc_may_be_sent, od_may_be_sent, .func (PySem.W.fnOf "may_be_sent" "may_be_sent" (defArgs s_may_be_sent_) (defBody s_may_be_sent_) (defScope s_may_be_sent_) .none kV_may_be_sent dc_may_be_sent pm_may_be_sent an_may_be_sent cd_may_be_sent ct_may_be_sent), sl_may_be_sent⟩)
    (co_may_be_sent : PySem.W.codeIn K cd_may_be_sent "may_be_sent" = true) (kp_may_be_sent : PySem.W.keepIn K (.ref a_may_be_sent) = true)
    {a_chosen : Addr} {od_chosen an_chosen : Option Addr} {sl_chosen : Array (Option Value)} {oc_chosen kV_chosen dc_chosen pm_chosen cd_chosen ct_chosen : Value}
    (ad_chosen : PySem.W.nsIn K mainGlobals "chosen" = some (some (.ref a_chosen)))
    (lo_chosen : K.lookup a_chosen = some ⟨oc_chosen, od_chosen, .func (PySem.W.fnOf "chosen" "chosen" (defArgs s_chosen_) (defBody s_chosen_) (defScope s_chosen_) .none kV_chosen dc_chosen pm_chosen an_chosen cd_chosen ct_chosen), sl_chosen⟩)
    (co_chosen : PySem.W.codeIn K cd_chosen "chosen" = true) (kp_chosen : PySem.W.keepIn K (.ref a_chosen) = true)
    {a_freed : Addr} {od_freed an_freed : Option Addr} {sl_freed : Array (Option Value)} {oc_freed kV_freed dc_freed pm_freed cd_freed ct_freed : Value}
    (ad_freed : PySem.W.nsIn K mainGlobals "freed" = some (some (.ref a_freed)))
    (lo_freed : K.lookup a_freed = some ⟨oc_freed, od_freed, .func (PySem.W.fnOf "freed" "freed" (defArgs s_freed_) (defBody s_freed_) (defScope s_freed_) .none kV_freed dc_freed pm_freed an_freed cd_freed ct_freed), sl_freed⟩)
    (co_freed : PySem.W.codeIn K cd_freed "freed" = true) (kp_freed : PySem.W.keepIn K (.ref a_freed) = true)
    {a_with_task : Addr} {od_with_task an_with_task : Option Addr} {sl_with_task : Array (Option Value)} {oc_with_task kV_with_task dc_with_task pm_with_task cd_with_task ct_with_task : Value}
    (ad_with_task : PySem.W.nsIn K mainGlobals "with_task" = some (some (.ref a_with_task)))
    (lo_with_task : K.lookup a_with_task = some ⟨oc_with_task, od_with_task, .func (PySem.W.fnOf "with_task" "with_task" (defArgs s_with_task_) (defBody s_with_task_) (defScope s_with_task_) .none kV_with_task dc_with_task pm_with_task an_with_task cd_with_task ct_with_task), sl_with_task⟩)
    (co_with_task : PySem.W.codeIn K cd_with_task "with_task" = true) (kp_with_task : PySem.W.keepIn K (.ref a_with_task) = true)
    {a__is_cut_off : Addr} {od__is_cut_off an__is_cut_off : Option Addr} {sl__is_cut_off : Array (Option Value)} {oc__is_cut_off kV__is_cut_off dc__is_cut_off pm__is_cut_off cd__is_cut_off ct__is_cut_off : Value}
    (ad__is_cut_off : PySem.W.nsIn K mainGlobals "_is_cut_off" = some (some (.ref a__is_cut_off)))
    (lo__is_cut_off : K.lookup a__is_cut_off = some ⟨oc__is_cut_off, od__is_cut_off, .func (PySem.W.fnOf "_is_cut_off" "_is_cut_off" (defArgs s__is_cut_off_) (defBody s__is_cut_off_) (defScope s__is_cut_off_) .none kV__is_cut_off dc__is_cut_off pm__is_cut_off an__is_cut_off cd__is_cut_off ct__is_cut_off), sl__is_cut_off⟩)
    (co__is_cut_off : PySem.W.codeIn K cd__is_cut_off "_is_cut_off" = true) (kp__is_cut_off : PySem.W.keepIn K (.ref a__is_cut_off) = true)
    {a_cut_off : Addr} {od_cut_off an_cut_off : Option Addr} {sl_cut_off : Array (Option Value)} {oc_cut_off kV_cut_off dc_cut_off pm_cut_off cd_cut_off ct_cut_off : Value}
    (ad_cut_off : PySem.W.nsIn K mainGlobals "cut_off" = some (some (.ref a_cut_off)))
    (lo_cut_off : K.lookup a_cut_off = some ⟨oc_cut_off, od_cut_off, .func (PySem.W.fnOf "cut_off" "cut_off" (defArgs s_cut_off_) (defBody s_cut_off_) (defScope s_cut_off_) .none kV_cut_off dc_cut_off pm_cut_off an_cut_off cd_cut_off ct_cut_off), sl_cut_off⟩)
    (co_cut_off : PySem.W.codeIn K cd_cut_off "cut_off" = true) (kp_cut_off : PySem.W.keepIn K (.ref a_cut_off) = true)
    {a__next_call : Addr} {od__next_call an__next_call : Option Addr} {sl__next_call : Array (Option Value)} {oc__next_call kV__next_call dc__next_call pm__next_call cd__next_call ct__next_call : Value}
    (ad__next_call : PySem.W.nsIn K mainGlobals "_next_call" = some (some (.ref a__next_call)))
    (lo__next_call : K.lookup a__next_call = some ⟨oc__next_call, od__next_call, .func (PySem.W.fnOf "_next_call" "_next_call" (defArgs s__next_call_) (defBody s__next_call_) (defScope s__next_call_) .none kV__next_call dc__next_call pm__next_call an__next_call cd__next_call ct__next_call), sl__next_call⟩)
    (co__next_call : PySem.W.codeIn K cd__next_call "_next_call" = true) (kp__next_call : PySem.W.keepIn K (.ref a__next_call) = true)
    {a__call_of : Addr} {od__call_of an__call_of : Option Addr} {sl__call_of : Array (Option Value)} {oc__call_of kV__call_of dc__call_of pm__call_of cd__call_of ct__call_of : Value}
    (ad__call_of : PySem.W.nsIn K mainGlobals "_call_of" = some (some (.ref a__call_of)))
    (lo__call_of : K.lookup a__call_of = some ⟨oc__call_of, od__call_of, .func (PySem.W.fnOf "_call_of" "_call_of" (defArgs s__call_of_) (defBody s__call_of_) (defScope s__call_of_) .none kV__call_of dc__call_of pm__call_of an__call_of cd__call_of ct__call_of), sl__call_of⟩)
    (co__call_of : PySem.W.codeIn K cd__call_of "_call_of" = true) (kp__call_of : PySem.W.keepIn K (.ref a__call_of) = true)
    {a_sendings : Addr} {od_sendings an_sendings : Option Addr} {sl_sendings : Array (Option Value)} {oc_sendings kV_sendings dc_sendings pm_sendings cd_sendings ct_sendings : Value}
    (ad_sendings : PySem.W.nsIn K mainGlobals "sendings" = some (some (.ref a_sendings)))
    (lo_sendings : K.lookup a_sendings = some ⟨oc_sendings, od_sendings, .func (PySem.W.fnOf "sendings" "sendings" (defArgs s_sendings_) (defBody s_sendings_) (defScope s_sendings_) .none kV_sendings dc_sendings pm_sendings an_sendings cd_sendings ct_sendings), sl_sendings⟩)
    (co_sendings : PySem.W.codeIn K cd_sendings "sendings" = true) (kp_sendings : PySem.W.keepIn K (.ref a_sendings) = true)
    {a__law_cell_at : Addr} {od__law_cell_at an__law_cell_at : Option Addr} {sl__law_cell_at : Array (Option Value)} {oc__law_cell_at kV__law_cell_at dc__law_cell_at pm__law_cell_at cd__law_cell_at ct__law_cell_at : Value}
    (ad__law_cell_at : PySem.W.nsIn K mainGlobals "_law_cell_at" = some (some (.ref a__law_cell_at)))
    (lo__law_cell_at : K.lookup a__law_cell_at = some ⟨oc__law_cell_at, od__law_cell_at, .func (PySem.W.fnOf "_law_cell_at" "_law_cell_at" (defArgs s__law_cell_at_) (defBody s__law_cell_at_) (defScope s__law_cell_at_) .none kV__law_cell_at dc__law_cell_at pm__law_cell_at an__law_cell_at cd__law_cell_at ct__law_cell_at), sl__law_cell_at⟩)
    (co__law_cell_at : PySem.W.codeIn K cd__law_cell_at "_law_cell_at" = true) (kp__law_cell_at : PySem.W.keepIn K (.ref a__law_cell_at) = true)
    {a__law_row : Addr} {od__law_row an__law_row : Option Addr} {sl__law_row : Array (Option Value)} {oc__law_row kV__law_row dc__law_row pm__law_row cd__law_row ct__law_row : Value}
    (ad__law_row : PySem.W.nsIn K mainGlobals "_law_row" = some (some (.ref a__law_row)))
    (lo__law_row : K.lookup a__law_row = some ⟨oc__law_row, od__law_row, .func (PySem.W.fnOf "_law_row" "_law_row" (defArgs s__law_row_) (defBody s__law_row_) (defScope s__law_row_) .none kV__law_row dc__law_row pm__law_row an__law_row cd__law_row ct__law_row), sl__law_row⟩)
    (co__law_row : PySem.W.codeIn K cd__law_row "_law_row" = true) (kp__law_row : PySem.W.keepIn K (.ref a__law_row) = true)
    {a__law_names : Addr} {od__law_names an__law_names : Option Addr} {sl__law_names : Array (Option Value)} {oc__law_names kV__law_names dc__law_names pm__law_names cd__law_names ct__law_names : Value}
    (ad__law_names : PySem.W.nsIn K mainGlobals "_law_names" = some (some (.ref a__law_names)))
    (lo__law_names : K.lookup a__law_names = some ⟨oc__law_names, od__law_names, .func (PySem.W.fnOf "_law_names" "_law_names" (defArgs s__law_names_) (defBody s__law_names_) (defScope s__law_names_) .none kV__law_names dc__law_names pm__law_names an__law_names cd__law_names ct__law_names), sl__law_names⟩)
    (co__law_names : PySem.W.codeIn K cd__law_names "_law_names" = true) (kp__law_names : PySem.W.keepIn K (.ref a__law_names) = true)
    {a__law_road : Addr} {od__law_road an__law_road : Option Addr} {sl__law_road : Array (Option Value)} {oc__law_road kV__law_road dc__law_road pm__law_road cd__law_road ct__law_road : Value}
    (ad__law_road : PySem.W.nsIn K mainGlobals "_law_road" = some (some (.ref a__law_road)))
    (lo__law_road : K.lookup a__law_road = some ⟨oc__law_road, od__law_road, .func (PySem.W.fnOf "_law_road" "_law_road" (defArgs s__law_road_) (defBody s__law_road_) (defScope s__law_road_) .none kV__law_road dc__law_road pm__law_road an__law_road cd__law_road ct__law_road), sl__law_road⟩)
    (co__law_road : PySem.W.codeIn K cd__law_road "_law_road" = true) (kp__law_road : PySem.W.keepIn K (.ref a__law_road) = true)
    {a__law_town : Addr} {od__law_town an__law_town : Option Addr} {sl__law_town : Array (Option Value)} {oc__law_town kV__law_town dc__law_town pm__law_town cd__law_town ct__law_town : Value}
    (ad__law_town : PySem.W.nsIn K mainGlobals "_law_town" = some (some (.ref a__law_town)))
    (lo__law_town : K.lookup a__law_town = some ⟨oc__law_town, od__law_town, .func (PySem.W.fnOf "_law_town" "_law_town" (defArgs s__law_town_) (defBody s__law_town_) (defScope s__law_town_) .none kV__law_town dc__law_town pm__law_town an__law_town cd__law_town ct__law_town), sl__law_town⟩)
    (co__law_town : PySem.W.codeIn K cd__law_town "_law_town" = true) (kp__law_town : PySem.W.keepIn K (.ref a__law_town) = true)
    {a__law_shut : Addr} {od__law_shut an__law_shut : Option Addr} {sl__law_shut : Array (Option Value)} {oc__law_shut kV__law_shut dc__law_shut pm__law_shut cd__law_shut ct__law_shut : Value}
    (ad__law_shut : PySem.W.nsIn K mainGlobals "_law_shut" = some (some (.ref a__law_shut)))
    (lo__law_shut : K.lookup a__law_shut = some ⟨oc__law_shut, od__law_shut, .func (PySem.W.fnOf "_law_shut" "_law_shut" (defArgs s__law_shut_) (defBody s__law_shut_) (defScope s__law_shut_) .none kV__law_shut dc__law_shut pm__law_shut an__law_shut cd__law_shut ct__law_shut), sl__law_shut⟩)
    (co__law_shut : PySem.W.codeIn K cd__law_shut "_law_shut" = true) (kp__law_shut : PySem.W.keepIn K (.ref a__law_shut) = true)
    {a__law_steps : Addr} {od__law_steps an__law_steps : Option Addr} {sl__law_steps : Array (Option Value)} {oc__law_steps kV__law_steps dc__law_steps pm__law_steps cd__law_steps ct__law_steps : Value}
    (ad__law_steps : PySem.W.nsIn K mainGlobals "_law_steps" = some (some (.ref a__law_steps)))
    (lo__law_steps : K.lookup a__law_steps = some ⟨oc__law_steps, od__law_steps, .func (PySem.W.fnOf "_law_steps" "_law_steps" (defArgs s__law_steps_) (defBody s__law_steps_) (defScope s__law_steps_) .none kV__law_steps dc__law_steps pm__law_steps an__law_steps cd__law_steps ct__law_steps), sl__law_steps⟩)
    (co__law_steps : PySem.W.codeIn K cd__law_steps "_law_steps" = true) (kp__law_steps : PySem.W.keepIn K (.ref a__law_steps) = true)
    {a__law_chart : Addr} {od__law_chart an__law_chart : Option Addr} {sl__law_chart : Array (Option Value)} {oc__law_chart kV__law_chart dc__law_chart pm__law_chart cd__law_chart ct__law_chart : Value}
    (ad__law_chart : PySem.W.nsIn K mainGlobals "_law_chart" = some (some (.ref a__law_chart)))
    (lo__law_chart : K.lookup a__law_chart = some ⟨oc__law_chart, od__law_chart, .func (PySem.W.fnOf "_law_chart" "_law_chart" (defArgs s__law_chart_) (defBody s__law_chart_) (defScope s__law_chart_) .none kV__law_chart dc__law_chart pm__law_chart an__law_chart cd__law_chart ct__law_chart), sl__law_chart⟩)
    (co__law_chart : PySem.W.codeIn K cd__law_chart "_law_chart" = true) (kp__law_chart : PySem.W.keepIn K (.ref a__law_chart) = true)
    {a__law_task : Addr} {od__law_task an__law_task : Option Addr} {sl__law_task : Array (Option Value)} {oc__law_task kV__law_task dc__law_task pm__law_task cd__law_task ct__law_task : Value}
    (ad__law_task : PySem.W.nsIn K mainGlobals "_law_task" = some (some (.ref a__law_task)))
    (lo__law_task : K.lookup a__law_task = some ⟨oc__law_task, od__law_task, .func (PySem.W.fnOf "_law_task" "_law_task" (defArgs s__law_task_) (defBody s__law_task_) (defScope s__law_task_) .none kV__law_task dc__law_task pm__law_task an__law_task cd__law_task ct__law_task), sl__law_task⟩)
    (co__law_task : PySem.W.codeIn K cd__law_task "_law_task" = true) (kp__law_task : PySem.W.keepIn K (.ref a__law_task) = true)
    {a__law_scene : Addr} {od__law_scene an__law_scene : Option Addr} {sl__law_scene : Array (Option Value)} {oc__law_scene kV__law_scene dc__law_scene pm__law_scene cd__law_scene ct__law_scene : Value}
    (ad__law_scene : PySem.W.nsIn K mainGlobals "_law_scene" = some (some (.ref a__law_scene)))
    (lo__law_scene : K.lookup a__law_scene = some ⟨oc__law_scene, od__law_scene, .func (PySem.W.fnOf "_law_scene" "_law_scene" (defArgs s__law_scene_) (defBody s__law_scene_) (defScope s__law_scene_) .none kV__law_scene dc__law_scene pm__law_scene an__law_scene cd__law_scene ct__law_scene), sl__law_scene⟩)
    (co__law_scene : PySem.W.codeIn K cd__law_scene "_law_scene" = true) (kp__law_scene : PySem.W.keepIn K (.ref a__law_scene) = true)
    {a__law_one_each : Addr} {od__law_one_each an__law_one_each : Option Addr} {sl__law_one_each : Array (Option Value)} {oc__law_one_each kV__law_one_each dc__law_one_each pm__law_one_each cd__law_one_each ct__law_one_each : Value}
    (ad__law_one_each : PySem.W.nsIn K mainGlobals "_law_one_each" = some (some (.ref a__law_one_each)))
    (lo__law_one_each : K.lookup a__law_one_each = some ⟨oc__law_one_each, od__law_one_each, .func (PySem.W.fnOf "_law_one_each" "_law_one_each" (defArgs s__law_one_each_) (defBody s__law_one_each_) (defScope s__law_one_each_) .none kV__law_one_each dc__law_one_each pm__law_one_each an__law_one_each cd__law_one_each ct__law_one_each), sl__law_one_each⟩)
    (co__law_one_each : PySem.W.codeIn K cd__law_one_each "_law_one_each" = true) (kp__law_one_each : PySem.W.keepIn K (.ref a__law_one_each) = true)
    {a__law_nearest : Addr} {od__law_nearest an__law_nearest : Option Addr} {sl__law_nearest : Array (Option Value)} {oc__law_nearest kV__law_nearest dc__law_nearest pm__law_nearest cd__law_nearest ct__law_nearest : Value}
    (ad__law_nearest : PySem.W.nsIn K mainGlobals "_law_nearest" = some (some (.ref a__law_nearest)))
    (lo__law_nearest : K.lookup a__law_nearest = some ⟨oc__law_nearest, od__law_nearest, .func (PySem.W.fnOf "_law_nearest" "_law_nearest" (defArgs s__law_nearest_) (defBody s__law_nearest_) (defScope s__law_nearest_) .none kV__law_nearest dc__law_nearest pm__law_nearest an__law_nearest cd__law_nearest ct__law_nearest), sl__law_nearest⟩)
    (co__law_nearest : PySem.W.codeIn K cd__law_nearest "_law_nearest" = true) (kp__law_nearest : PySem.W.keepIn K (.ref a__law_nearest) = true)
    {a__law_walked : Addr} {od__law_walked an__law_walked : Option Addr} {sl__law_walked : Array (Option Value)} {oc__law_walked kV__law_walked dc__law_walked pm__law_walked cd__law_walked ct__law_walked : Value}
    (ad__law_walked : PySem.W.nsIn K mainGlobals "_law_walked" = some (some (.ref a__law_walked)))
    (lo__law_walked : K.lookup a__law_walked = some ⟨oc__law_walked, od__law_walked, .func (PySem.W.fnOf "_law_walked" "_law_walked" (defArgs s__law_walked_) (defBody s__law_walked_) (defScope s__law_walked_) .none kV__law_walked dc__law_walked pm__law_walked an__law_walked cd__law_walked ct__law_walked), sl__law_walked⟩)
    (co__law_walked : PySem.W.codeIn K cd__law_walked "_law_walked" = true) (kp__law_walked : PySem.W.keepIn K (.ref a__law_walked) = true)
    {a_law : Addr} {od_law an_law : Option Addr} {sl_law : Array (Option Value)} {oc_law kV_law dc_law pm_law cd_law ct_law : Value}
    (ad_law : PySem.W.nsIn K mainGlobals "law" = some (some (.ref a_law)))
    (lo_law : K.lookup a_law = some ⟨oc_law, od_law, .func (PySem.W.fnOf "law" "law" (defArgs s_law_) (defBody s_law_) (defScope s_law_) .none kV_law dc_law pm_law an_law cd_law ct_law), sl_law⟩)
    (co_law : PySem.W.codeIn K cd_law "law" = true) (kp_law : PySem.W.keepIn K (.ref a_law) = true)
    {a_FREE : Addr} {tk_FREE0 : Tok} {nn_FREE : Nat} {sl_FREE : Array (Option Value)} (cn_FREE : PySem.W.nsIn K mainGlobals "FREE" = some (some (.ref a_FREE))) (lo_FREE : K.lookup a_FREE = some ⟨.type "tuple", none, .seq #[.str "free" tk_FREE0] nn_FREE, sl_FREE⟩)
    (no_max : PySem.W.nsIn K mainGlobals "max" = some none)
    (no_sorted : PySem.W.nsIn K mainGlobals "sorted" = some none)
    (no_min : PySem.W.nsIn K mainGlobals "min" = some none)
    (no_list : PySem.W.nsIn K mainGlobals "list" = some none)
    (no_len : PySem.W.nsIn K mainGlobals "len" = some none)
    (no_abs : PySem.W.nsIn K mainGlobals "abs" = some none)
    (no_range : PySem.W.nsIn K mainGlobals "range" = some none)
    (no_int : PySem.W.nsIn K mainGlobals "int" = some none)
    (no_tuple : PySem.W.nsIn K mainGlobals "tuple" = some none)
    (no_set : PySem.W.nsIn K mainGlobals "set" = some none)
    (no_all : PySem.W.nsIn K mainGlobals "all" = some none)
    (no_dict : PySem.W.nsIn K mainGlobals "dict" = some none)
    : ∃ fd : FuncData, (∀ (s : Shared) (u : Value), BindsTo s fd ⟨[u], []⟩ [("script", u)]) ∧ ∀ b : Heap, K.In b → b.Ns mainGlobals mg → Keeps P w K mg b CX0 6 fa fd ["script"] (spLaw K) := by
  have e := hfa.symm.trans (PySem.W.mg_of X G ad_law)
  cases e
  have f_far := fun_mk (st := s_far_) lo_far co_far kp_far
  have F_far : Fn K mg "far" s_far_ _ _ ["town", "chart", "now", "wagon", "place"] := ⟨f_far, PySem.W.mg_of X G ad_far, f_far.binds (ps := ["town", "chart", "now", "wagon", "place"]) fun _ _ _ _ _ _ us hl => match us, hl with | [_, _, _, _, _], _ => rfl⟩
  have f_waiting := fun_mk (st := s_waiting_) lo_waiting co_waiting kp_waiting
  have F_waiting : Fn K mg "waiting" s_waiting_ _ _ ["wagons", "calls"] := ⟨f_waiting, PySem.W.mg_of X G ad_waiting, f_waiting.binds (ps := ["wagons", "calls"]) fun _ _ _ _ _ _ us hl => match us, hl with | [_, _], _ => rfl⟩
  have f_named := fun_mk (st := s_named_) lo_named co_named kp_named
  have F_named : Fn K mg "named" s_named_ _ _ ["rows", "name"] := ⟨f_named, PySem.W.mg_of X G ad_named, f_named.binds (ps := ["rows", "name"]) fun _ _ _ _ _ _ us hl => match us, hl with | [_, _], _ => rfl⟩
  have f_may_be_sent := fun_mk (st := s_may_be_sent_) lo_may_be_sent co_may_be_sent kp_may_be_sent
  have F_may_be_sent : Fn K mg "may_be_sent" s_may_be_sent_ _ _ ["calls", "wagon", "name"] := ⟨f_may_be_sent, PySem.W.mg_of X G ad_may_be_sent, f_may_be_sent.binds (ps := ["calls", "wagon", "name"]) fun _ _ _ _ _ _ us hl => match us, hl with | [_, _, _], _ => rfl⟩
  have f_chosen := fun_mk (st := s_chosen_) lo_chosen co_chosen kp_chosen
  have F_chosen : Fn K mg "chosen" s_chosen_ _ _ ["town", "chart", "now", "wagons", "calls", "name"] := ⟨f_chosen, PySem.W.mg_of X G ad_chosen, f_chosen.binds (ps := ["town", "chart", "now", "wagons", "calls", "name"]) fun _ _ _ _ _ _ us hl => match us, hl with | [_, _, _, _, _, _], _ => rfl⟩
  have f_freed := fun_mk (st := s_freed_) lo_freed co_freed kp_freed
  have F_freed : Fn K mg "freed" s_freed_ _ _ ["wagon"] := ⟨f_freed, PySem.W.mg_of X G ad_freed, f_freed.binds (ps := ["wagon"]) fun _ _ _ _ _ _ us hl => match us, hl with | [_], _ => rfl⟩
  have f_with_task := fun_mk (st := s_with_task_) lo_with_task co_with_task kp_with_task
  have F_with_task : Fn K mg "with_task" s_with_task_ _ _ ["wagon", "task"] := ⟨f_with_task, PySem.W.mg_of X G ad_with_task, f_with_task.binds (ps := ["wagon", "task"]) fun _ _ _ _ _ _ us hl => match us, hl with | [_, _], _ => rfl⟩
  have f__is_cut_off := fun_mk (st := s__is_cut_off_) lo__is_cut_off co__is_cut_off kp__is_cut_off
  have F__is_cut_off : Fn K mg "_is_cut_off" s__is_cut_off_ _ _ ["town", "chart", "wagon", "calls"] := ⟨f__is_cut_off, PySem.W.mg_of X G ad__is_cut_off, f__is_cut_off.binds (ps := ["town", "chart", "wagon", "calls"]) fun _ _ _ _ _ _ us hl => match us, hl with | [_, _, _, _], _ => rfl⟩
  have f_cut_off := fun_mk (st := s_cut_off_) lo_cut_off co_cut_off kp_cut_off
  have F_cut_off : Fn K mg "cut_off" s_cut_off_ _ _ ["town", "chart", "wagons", "calls"] := ⟨f_cut_off, PySem.W.mg_of X G ad_cut_off, f_cut_off.binds (ps := ["town", "chart", "wagons", "calls"]) fun _ _ _ _ _ _ us hl => match us, hl with | [_, _, _, _], _ => rfl⟩
  have f__next_call := fun_mk (st := s__next_call_) lo__next_call co__next_call kp__next_call
  have F__next_call : Fn K mg "_next_call" s__next_call_ _ _ ["wagons", "calls", "looked_at"] := ⟨f__next_call, PySem.W.mg_of X G ad__next_call, f__next_call.binds (ps := ["wagons", "calls", "looked_at"]) fun _ _ _ _ _ _ us hl => match us, hl with | [_, _, _], _ => rfl⟩
  have f__call_of := fun_mk (st := s__call_of_) lo__call_of co__call_of kp__call_of
  have F__call_of : Fn K mg "_call_of" s__call_of_ _ _ ["wagons", "name"] := ⟨f__call_of, PySem.W.mg_of X G ad__call_of, f__call_of.binds (ps := ["wagons", "name"]) fun _ _ _ _ _ _ us hl => match us, hl with | [_, _], _ => rfl⟩
  have f_sendings := fun_mk (st := s_sendings_) lo_sendings co_sendings kp_sendings
  have F_sendings : Fn K mg "sendings" s_sendings_ _ _ ["town", "chart", "now", "wagons", "calls"] := ⟨f_sendings, PySem.W.mg_of X G ad_sendings, f_sendings.binds (ps := ["town", "chart", "now", "wagons", "calls"]) fun _ _ _ _ _ _ us hl => match us, hl with | [_, _, _, _, _], _ => rfl⟩
  have f__law_cell_at := fun_mk (st := s__law_cell_at_) lo__law_cell_at co__law_cell_at kp__law_cell_at
  have F__law_cell_at : Fn K mg "_law_cell_at" s__law_cell_at_ _ _ ["script", "k"] := ⟨f__law_cell_at, PySem.W.mg_of X G ad__law_cell_at, f__law_cell_at.binds (ps := ["script", "k"]) fun _ _ _ _ _ _ us hl => match us, hl with | [_, _], _ => rfl⟩
  have f__law_row := fun_mk (st := s__law_row_) lo__law_row co__law_row kp__law_row
  have F__law_row : Fn K mg "_law_row" s__law_row_ _ _ ["cell", "many"] := ⟨f__law_row, PySem.W.mg_of X G ad__law_row, f__law_row.binds (ps := ["cell", "many"]) fun _ _ _ _ _ _ us hl => match us, hl with | [_, _], _ => rfl⟩
  have f__law_names := fun_mk (st := s__law_names_) lo__law_names co__law_names kp__law_names
  have F__law_names : Fn K mg "_law_names" s__law_names_ _ _ ["row", "many"] := ⟨f__law_names, PySem.W.mg_of X G ad__law_names, f__law_names.binds (ps := ["row", "many"]) fun _ _ _ _ _ _ us hl => match us, hl with | [_, _], _ => rfl⟩
  have f__law_road := fun_mk (st := s__law_road_) lo__law_road co__law_road kp__law_road
  have F__law_road : Fn K mg "_law_road" s__law_road_ _ _ ["row", "names"] := ⟨f__law_road, PySem.W.mg_of X G ad__law_road, f__law_road.binds (ps := ["row", "names"]) fun _ _ _ _ _ _ us hl => match us, hl with | [_, _], _ => rfl⟩
  have f__law_town := fun_mk (st := s__law_town_) lo__law_town co__law_town kp__law_town
  have F__law_town : Fn K mg "_law_town" s__law_town_ _ _ ["script", "start"] := ⟨f__law_town, PySem.W.mg_of X G ad__law_town, f__law_town.binds (ps := ["script", "start"]) fun _ _ _ _ _ _ us hl => match us, hl with | [_, _], _ => rfl⟩
  have f__law_shut := fun_mk (st := s__law_shut_) lo__law_shut co__law_shut kp__law_shut
  have F__law_shut : Fn K mg "_law_shut" s__law_shut_ _ _ ["cell", "town"] := ⟨f__law_shut, PySem.W.mg_of X G ad__law_shut, f__law_shut.binds (ps := ["cell", "town"]) fun _ _ _ _ _ _ us hl => match us, hl with | [_, _], _ => rfl⟩
  have f__law_steps := fun_mk (st := s__law_steps_) lo__law_steps co__law_steps kp__law_steps
  have F__law_steps : Fn K mg "_law_steps" s__law_steps_ _ _ ["town", "shut"] := ⟨f__law_steps, PySem.W.mg_of X G ad__law_steps, f__law_steps.binds (ps := ["town", "shut"]) fun _ _ _ _ _ _ us hl => match us, hl with | [_, _], _ => rfl⟩
  have f__law_chart := fun_mk (st := s__law_chart_) lo__law_chart co__law_chart kp__law_chart
  have F__law_chart : Fn K mg "_law_chart" s__law_chart_ _ _ ["town", "shut"] := ⟨f__law_chart, PySem.W.mg_of X G ad__law_chart, f__law_chart.binds (ps := ["town", "shut"]) fun _ _ _ _ _ _ us hl => match us, hl with | [_, _], _ => rfl⟩
  have f__law_task := fun_mk (st := s__law_task_) lo__law_task co__law_task kp__law_task
  have F__law_task : Fn K mg "_law_task" s__law_task_ _ _ ["row", "now", "calls", "left"] := ⟨f__law_task, PySem.W.mg_of X G ad__law_task, f__law_task.binds (ps := ["row", "now", "calls", "left"]) fun _ _ _ _ _ _ us hl => match us, hl with | [_, _, _, _], _ => rfl⟩
  have f__law_scene := fun_mk (st := s__law_scene_) lo__law_scene co__law_scene kp__law_scene
  have F__law_scene : Fn K mg "_law_scene" s__law_scene_ _ _ ["script"] := ⟨f__law_scene, PySem.W.mg_of X G ad__law_scene, f__law_scene.binds (ps := ["script"]) fun _ _ _ _ _ _ us hl => match us, hl with | [_], _ => rfl⟩
  have f__law_one_each := fun_mk (st := s__law_one_each_) lo__law_one_each co__law_one_each kp__law_one_each
  have F__law_one_each : Fn K mg "_law_one_each" s__law_one_each_ _ _ ["wagons", "calls"] := ⟨f__law_one_each, PySem.W.mg_of X G ad__law_one_each, f__law_one_each.binds (ps := ["wagons", "calls"]) fun _ _ _ _ _ _ us hl => match us, hl with | [_, _], _ => rfl⟩
  have f__law_nearest := fun_mk (st := s__law_nearest_) lo__law_nearest co__law_nearest kp__law_nearest
  have F__law_nearest : Fn K mg "_law_nearest" s__law_nearest_ _ _ ["town", "chart", "now", "wagons", "calls", "name"] := ⟨f__law_nearest, PySem.W.mg_of X G ad__law_nearest, f__law_nearest.binds (ps := ["town", "chart", "now", "wagons", "calls", "name"]) fun _ _ _ _ _ _ us hl => match us, hl with | [_, _, _, _, _, _], _ => rfl⟩
  have f__law_walked := fun_mk (st := s__law_walked_) lo__law_walked co__law_walked kp__law_walked
  have F__law_walked : Fn K mg "_law_walked" s__law_walked_ _ _ ["town", "chart", "now", "wagons", "calls", "told"] := ⟨f__law_walked, PySem.W.mg_of X G ad__law_walked, f__law_walked.binds (ps := ["town", "chart", "now", "wagons", "calls", "told"]) fun _ _ _ _ _ _ us hl => match us, hl with | [_, _, _, _, _, _], _ => rfl⟩
  have f_law := fun_mk (st := s_law_) lo_law co_law kp_law
  have F_law : Fn K mg "law" s_law_ _ _ ["script"] := ⟨f_law, PySem.W.mg_of X G ad_law, f_law.binds (ps := ["script"]) fun _ _ _ _ _ _ us hl => match us, hl with | [_], _ => rfl⟩
  have tf_FREE : ∀ H : Hp, SqT K H a_FREE [.str "free"] := fun H => .inr ⟨_, _, _, lo_FREE, rfl, rfl, len_le (by simp), (.cons ⟨_, rfl⟩ .nil)⟩
  refine ⟨PySem.W.fnOf "law" "law" (defArgs s_law_) (defBody s_law_) (defScope s_law_) .none kV_law dc_law pm_law an_law cd_law ct_law, fun s v => .of_eq rfl, fun b _ _ => ?_⟩
  have k_far := dv_far (P := P) (w := w) (b := b) (sp := spFar K) F_far (PySem.W.mg_none_of X G no_max) (by intro vs H Q E h; first | (obtain ⟨_, rfl, _⟩ := h; rfl) | (obtain ⟨_, _, rfl, _⟩ := h; rfl) | (obtain ⟨_, _, _, rfl, _⟩ := h; rfl) | (obtain ⟨_, _, _, _, rfl, _⟩ := h; rfl) | (obtain ⟨_, _, _, _, _, rfl, _⟩ := h; rfl) | (obtain ⟨_, _, _, _, _, _, rfl, _⟩ := h; rfl) | (obtain ⟨_, _, _, _, _, _, _, rfl, _⟩ := h; rfl) | (obtain ⟨_, _, _, _, _, _, _, _, rfl, _⟩ := h; rfl) | (obtain ⟨_, _, _, _, _, _, _, _, _, rfl, _⟩ := h; rfl) | (obtain ⟨_, _, _, _, _, _, _, _, _, _, rfl, _⟩ := h; rfl) | (obtain ⟨_, _, _, _, _, _, _, _, _, _, _, rfl, _⟩ := h; rfl) | (obtain ⟨_, _, _, _, _, _, _, _, _, _, _, _, rfl, _⟩ := h; rfl) | (obtain ⟨_, _, _, _, _, _, _, _, _, _, _, _, _, rfl, _⟩ := h; rfl) | (obtain ⟨_, _, _, _, _, _, _, _, _, _, _, _, _, _, rfl, _⟩ := h; rfl)) (rd_far K)
  have k_waiting := dv_waiting (P := P) (w := w) (b := b) (sp := spWaiting K) F_waiting (PySem.W.mg_of X G cn_FREE) (PySem.W.mg_none_of X G no_sorted) (by intro vs H Q E h; first | (obtain ⟨_, rfl, _⟩ := h; rfl) | (obtain ⟨_, _, rfl, _⟩ := h; rfl) | (obtain ⟨_, _, _, rfl, _⟩ := h; rfl) | (obtain ⟨_, _, _, _, rfl, _⟩ := h; rfl) | (obtain ⟨_, _, _, _, _, rfl, _⟩ := h; rfl) | (obtain ⟨_, _, _, _, _, _, rfl, _⟩ := h; rfl) | (obtain ⟨_, _, _, _, _, _, _, rfl, _⟩ := h; rfl) | (obtain ⟨_, _, _, _, _, _, _, _, rfl, _⟩ := h; rfl) | (obtain ⟨_, _, _, _, _, _, _, _, _, rfl, _⟩ := h; rfl) | (obtain ⟨_, _, _, _, _, _, _, _, _, _, rfl, _⟩ := h; rfl) | (obtain ⟨_, _, _, _, _, _, _, _, _, _, _, rfl, _⟩ := h; rfl) | (obtain ⟨_, _, _, _, _, _, _, _, _, _, _, _, rfl, _⟩ := h; rfl) | (obtain ⟨_, _, _, _, _, _, _, _, _, _, _, _, _, rfl, _⟩ := h; rfl) | (obtain ⟨_, _, _, _, _, _, _, _, _, _, _, _, _, _, rfl, _⟩ := h; rfl)) (rd_waiting K tf_FREE)
  have k_named := dv_named (P := P) (w := w) (b := b) (sp := spNamed K) F_named  (by intro vs H Q E h; first | (obtain ⟨_, rfl, _⟩ := h; rfl) | (obtain ⟨_, _, rfl, _⟩ := h; rfl) | (obtain ⟨_, _, _, rfl, _⟩ := h; rfl) | (obtain ⟨_, _, _, _, rfl, _⟩ := h; rfl) | (obtain ⟨_, _, _, _, _, rfl, _⟩ := h; rfl) | (obtain ⟨_, _, _, _, _, _, rfl, _⟩ := h; rfl) | (obtain ⟨_, _, _, _, _, _, _, rfl, _⟩ := h; rfl) | (obtain ⟨_, _, _, _, _, _, _, _, rfl, _⟩ := h; rfl) | (obtain ⟨_, _, _, _, _, _, _, _, _, rfl, _⟩ := h; rfl) | (obtain ⟨_, _, _, _, _, _, _, _, _, _, rfl, _⟩ := h; rfl) | (obtain ⟨_, _, _, _, _, _, _, _, _, _, _, rfl, _⟩ := h; rfl) | (obtain ⟨_, _, _, _, _, _, _, _, _, _, _, _, rfl, _⟩ := h; rfl) | (obtain ⟨_, _, _, _, _, _, _, _, _, _, _, _, _, rfl, _⟩ := h; rfl) | (obtain ⟨_, _, _, _, _, _, _, _, _, _, _, _, _, _, rfl, _⟩ := h; rfl)) (rd_named K)
  have k_may_be_sent := dv_may_be_sent (P := P) (w := w) (b := b) (sp := spMay K) F_may_be_sent (PySem.W.mg_of X G cn_FREE) F_named k_named (by intro vs H Q E h; first | (obtain ⟨_, rfl, _⟩ := h; rfl) | (obtain ⟨_, _, rfl, _⟩ := h; rfl) | (obtain ⟨_, _, _, rfl, _⟩ := h; rfl) | (obtain ⟨_, _, _, _, rfl, _⟩ := h; rfl) | (obtain ⟨_, _, _, _, _, rfl, _⟩ := h; rfl) | (obtain ⟨_, _, _, _, _, _, rfl, _⟩ := h; rfl) | (obtain ⟨_, _, _, _, _, _, _, rfl, _⟩ := h; rfl) | (obtain ⟨_, _, _, _, _, _, _, _, rfl, _⟩ := h; rfl) | (obtain ⟨_, _, _, _, _, _, _, _, _, rfl, _⟩ := h; rfl) | (obtain ⟨_, _, _, _, _, _, _, _, _, _, rfl, _⟩ := h; rfl) | (obtain ⟨_, _, _, _, _, _, _, _, _, _, _, rfl, _⟩ := h; rfl) | (obtain ⟨_, _, _, _, _, _, _, _, _, _, _, _, rfl, _⟩ := h; rfl) | (obtain ⟨_, _, _, _, _, _, _, _, _, _, _, _, _, rfl, _⟩ := h; rfl) | (obtain ⟨_, _, _, _, _, _, _, _, _, _, _, _, _, _, rfl, _⟩ := h; rfl)) (rd_may K tf_FREE)
  have k_chosen := dv_chosen (P := P) (w := w) (b := b) (sp := spChosen K) F_chosen F_named k_named F_may_be_sent k_may_be_sent F_far k_far (PySem.W.mg_of X G cn_FREE) (PySem.W.mg_none_of X G no_min) (by intro vs H Q E h; first | (obtain ⟨_, rfl, _⟩ := h; rfl) | (obtain ⟨_, _, rfl, _⟩ := h; rfl) | (obtain ⟨_, _, _, rfl, _⟩ := h; rfl) | (obtain ⟨_, _, _, _, rfl, _⟩ := h; rfl) | (obtain ⟨_, _, _, _, _, rfl, _⟩ := h; rfl) | (obtain ⟨_, _, _, _, _, _, rfl, _⟩ := h; rfl) | (obtain ⟨_, _, _, _, _, _, _, rfl, _⟩ := h; rfl) | (obtain ⟨_, _, _, _, _, _, _, _, rfl, _⟩ := h; rfl) | (obtain ⟨_, _, _, _, _, _, _, _, _, rfl, _⟩ := h; rfl) | (obtain ⟨_, _, _, _, _, _, _, _, _, _, rfl, _⟩ := h; rfl) | (obtain ⟨_, _, _, _, _, _, _, _, _, _, _, rfl, _⟩ := h; rfl) | (obtain ⟨_, _, _, _, _, _, _, _, _, _, _, _, rfl, _⟩ := h; rfl) | (obtain ⟨_, _, _, _, _, _, _, _, _, _, _, _, _, rfl, _⟩ := h; rfl) | (obtain ⟨_, _, _, _, _, _, _, _, _, _, _, _, _, _, rfl, _⟩ := h; rfl)) (rd_chosen K tf_FREE)
  have k_freed := dv_freed (P := P) (w := w) (b := b) (sp := spFreed K) F_freed (PySem.W.mg_of X G cn_FREE) (by intro vs H Q E h; first | (obtain ⟨_, rfl, _⟩ := h; rfl) | (obtain ⟨_, _, rfl, _⟩ := h; rfl) | (obtain ⟨_, _, _, rfl, _⟩ := h; rfl) | (obtain ⟨_, _, _, _, rfl, _⟩ := h; rfl) | (obtain ⟨_, _, _, _, _, rfl, _⟩ := h; rfl) | (obtain ⟨_, _, _, _, _, _, rfl, _⟩ := h; rfl) | (obtain ⟨_, _, _, _, _, _, _, rfl, _⟩ := h; rfl) | (obtain ⟨_, _, _, _, _, _, _, _, rfl, _⟩ := h; rfl) | (obtain ⟨_, _, _, _, _, _, _, _, _, rfl, _⟩ := h; rfl) | (obtain ⟨_, _, _, _, _, _, _, _, _, _, rfl, _⟩ := h; rfl) | (obtain ⟨_, _, _, _, _, _, _, _, _, _, _, rfl, _⟩ := h; rfl) | (obtain ⟨_, _, _, _, _, _, _, _, _, _, _, _, rfl, _⟩ := h; rfl) | (obtain ⟨_, _, _, _, _, _, _, _, _, _, _, _, _, rfl, _⟩ := h; rfl) | (obtain ⟨_, _, _, _, _, _, _, _, _, _, _, _, _, _, rfl, _⟩ := h; rfl)) (rd_freed K tf_FREE)
  have k_with_task := dv_with_task (P := P) (w := w) (b := b) (sp := spWith K) F_with_task  (by intro vs H Q E h; first | (obtain ⟨_, rfl, _⟩ := h; rfl) | (obtain ⟨_, _, rfl, _⟩ := h; rfl) | (obtain ⟨_, _, _, rfl, _⟩ := h; rfl) | (obtain ⟨_, _, _, _, rfl, _⟩ := h; rfl) | (obtain ⟨_, _, _, _, _, rfl, _⟩ := h; rfl) | (obtain ⟨_, _, _, _, _, _, rfl, _⟩ := h; rfl) | (obtain ⟨_, _, _, _, _, _, _, rfl, _⟩ := h; rfl) | (obtain ⟨_, _, _, _, _, _, _, _, rfl, _⟩ := h; rfl) | (obtain ⟨_, _, _, _, _, _, _, _, _, rfl, _⟩ := h; rfl) | (obtain ⟨_, _, _, _, _, _, _, _, _, _, rfl, _⟩ := h; rfl) | (obtain ⟨_, _, _, _, _, _, _, _, _, _, _, rfl, _⟩ := h; rfl) | (obtain ⟨_, _, _, _, _, _, _, _, _, _, _, _, rfl, _⟩ := h; rfl) | (obtain ⟨_, _, _, _, _, _, _, _, _, _, _, _, _, rfl, _⟩ := h; rfl) | (obtain ⟨_, _, _, _, _, _, _, _, _, _, _, _, _, _, rfl, _⟩ := h; rfl)) (rd_with K)
  have k__is_cut_off := dv__is_cut_off (P := P) (w := w) (b := b) (sp := spIsCut K) F__is_cut_off F_named k_named F_far k_far (by intro vs H Q E h; first | (obtain ⟨_, rfl, _⟩ := h; rfl) | (obtain ⟨_, _, rfl, _⟩ := h; rfl) | (obtain ⟨_, _, _, rfl, _⟩ := h; rfl) | (obtain ⟨_, _, _, _, rfl, _⟩ := h; rfl) | (obtain ⟨_, _, _, _, _, rfl, _⟩ := h; rfl) | (obtain ⟨_, _, _, _, _, _, rfl, _⟩ := h; rfl) | (obtain ⟨_, _, _, _, _, _, _, rfl, _⟩ := h; rfl) | (obtain ⟨_, _, _, _, _, _, _, _, rfl, _⟩ := h; rfl) | (obtain ⟨_, _, _, _, _, _, _, _, _, rfl, _⟩ := h; rfl) | (obtain ⟨_, _, _, _, _, _, _, _, _, _, rfl, _⟩ := h; rfl) | (obtain ⟨_, _, _, _, _, _, _, _, _, _, _, rfl, _⟩ := h; rfl) | (obtain ⟨_, _, _, _, _, _, _, _, _, _, _, _, rfl, _⟩ := h; rfl) | (obtain ⟨_, _, _, _, _, _, _, _, _, _, _, _, _, rfl, _⟩ := h; rfl) | (obtain ⟨_, _, _, _, _, _, _, _, _, _, _, _, _, _, rfl, _⟩ := h; rfl)) (rd_isCut K)
  have k_cut_off := dv_cut_off (P := P) (w := w) (b := b) (sp := spCut K) F_cut_off F__is_cut_off k__is_cut_off F_freed k_freed (by intro vs H Q E h; first | (obtain ⟨_, rfl, _⟩ := h; rfl) | (obtain ⟨_, _, rfl, _⟩ := h; rfl) | (obtain ⟨_, _, _, rfl, _⟩ := h; rfl) | (obtain ⟨_, _, _, _, rfl, _⟩ := h; rfl) | (obtain ⟨_, _, _, _, _, rfl, _⟩ := h; rfl) | (obtain ⟨_, _, _, _, _, _, rfl, _⟩ := h; rfl) | (obtain ⟨_, _, _, _, _, _, _, rfl, _⟩ := h; rfl) | (obtain ⟨_, _, _, _, _, _, _, _, rfl, _⟩ := h; rfl) | (obtain ⟨_, _, _, _, _, _, _, _, _, rfl, _⟩ := h; rfl) | (obtain ⟨_, _, _, _, _, _, _, _, _, _, rfl, _⟩ := h; rfl) | (obtain ⟨_, _, _, _, _, _, _, _, _, _, _, rfl, _⟩ := h; rfl) | (obtain ⟨_, _, _, _, _, _, _, _, _, _, _, _, rfl, _⟩ := h; rfl) | (obtain ⟨_, _, _, _, _, _, _, _, _, _, _, _, _, rfl, _⟩ := h; rfl) | (obtain ⟨_, _, _, _, _, _, _, _, _, _, _, _, _, _, rfl, _⟩ := h; rfl)) (rd_cut K)
  have k__next_call := dv__next_call (P := P) (w := w) (b := b) (sp := spNext K) F__next_call F_waiting k_waiting (by intro vs H Q E h; first | (obtain ⟨_, rfl, _⟩ := h; rfl) | (obtain ⟨_, _, rfl, _⟩ := h; rfl) | (obtain ⟨_, _, _, rfl, _⟩ := h; rfl) | (obtain ⟨_, _, _, _, rfl, _⟩ := h; rfl) | (obtain ⟨_, _, _, _, _, rfl, _⟩ := h; rfl) | (obtain ⟨_, _, _, _, _, _, rfl, _⟩ := h; rfl) | (obtain ⟨_, _, _, _, _, _, _, rfl, _⟩ := h; rfl) | (obtain ⟨_, _, _, _, _, _, _, _, rfl, _⟩ := h; rfl) | (obtain ⟨_, _, _, _, _, _, _, _, _, rfl, _⟩ := h; rfl) | (obtain ⟨_, _, _, _, _, _, _, _, _, _, rfl, _⟩ := h; rfl) | (obtain ⟨_, _, _, _, _, _, _, _, _, _, _, rfl, _⟩ := h; rfl) | (obtain ⟨_, _, _, _, _, _, _, _, _, _, _, _, rfl, _⟩ := h; rfl) | (obtain ⟨_, _, _, _, _, _, _, _, _, _, _, _, _, rfl, _⟩ := h; rfl) | (obtain ⟨_, _, _, _, _, _, _, _, _, _, _, _, _, _, rfl, _⟩ := h; rfl)) (rd_next K)
  have k__call_of := dv__call_of (P := P) (w := w) (b := b) (sp := spCallOf K) F__call_of F_named k_named (PySem.W.mg_of X G cn_FREE) (by intro vs H Q E h; first | (obtain ⟨_, rfl, _⟩ := h; rfl) | (obtain ⟨_, _, rfl, _⟩ := h; rfl) | (obtain ⟨_, _, _, rfl, _⟩ := h; rfl) | (obtain ⟨_, _, _, _, rfl, _⟩ := h; rfl) | (obtain ⟨_, _, _, _, _, rfl, _⟩ := h; rfl) | (obtain ⟨_, _, _, _, _, _, rfl, _⟩ := h; rfl) | (obtain ⟨_, _, _, _, _, _, _, rfl, _⟩ := h; rfl) | (obtain ⟨_, _, _, _, _, _, _, _, rfl, _⟩ := h; rfl) | (obtain ⟨_, _, _, _, _, _, _, _, _, rfl, _⟩ := h; rfl) | (obtain ⟨_, _, _, _, _, _, _, _, _, _, rfl, _⟩ := h; rfl) | (obtain ⟨_, _, _, _, _, _, _, _, _, _, _, rfl, _⟩ := h; rfl) | (obtain ⟨_, _, _, _, _, _, _, _, _, _, _, _, rfl, _⟩ := h; rfl) | (obtain ⟨_, _, _, _, _, _, _, _, _, _, _, _, _, rfl, _⟩ := h; rfl) | (obtain ⟨_, _, _, _, _, _, _, _, _, _, _, _, _, _, rfl, _⟩ := h; rfl)) (rd_callOf K tf_FREE)
  have k_sendings := dv_sendings (P := P) (w := w) (b := b) (sp := spSend K) F_sendings (PySem.W.mg_none_of X G no_list) F__next_call k__next_call F_chosen k_chosen F__call_of k__call_of F_with_task k_with_task (by intro vs H Q E h; first | (obtain ⟨_, rfl, _⟩ := h; rfl) | (obtain ⟨_, _, rfl, _⟩ := h; rfl) | (obtain ⟨_, _, _, rfl, _⟩ := h; rfl) | (obtain ⟨_, _, _, _, rfl, _⟩ := h; rfl) | (obtain ⟨_, _, _, _, _, rfl, _⟩ := h; rfl) | (obtain ⟨_, _, _, _, _, _, rfl, _⟩ := h; rfl) | (obtain ⟨_, _, _, _, _, _, _, rfl, _⟩ := h; rfl) | (obtain ⟨_, _, _, _, _, _, _, _, rfl, _⟩ := h; rfl) | (obtain ⟨_, _, _, _, _, _, _, _, _, rfl, _⟩ := h; rfl) | (obtain ⟨_, _, _, _, _, _, _, _, _, _, rfl, _⟩ := h; rfl) | (obtain ⟨_, _, _, _, _, _, _, _, _, _, _, rfl, _⟩ := h; rfl) | (obtain ⟨_, _, _, _, _, _, _, _, _, _, _, _, rfl, _⟩ := h; rfl) | (obtain ⟨_, _, _, _, _, _, _, _, _, _, _, _, _, rfl, _⟩ := h; rfl) | (obtain ⟨_, _, _, _, _, _, _, _, _, _, _, _, _, _, rfl, _⟩ := h; rfl)) (rd_sendings K)
  have k__law_cell_at := dv__law_cell_at (P := P) (w := w) (b := b) (sp := spCell K) F__law_cell_at (PySem.W.mg_none_of X G no_len) (by intro vs H Q E h; first | (obtain ⟨_, rfl, _⟩ := h; rfl) | (obtain ⟨_, _, rfl, _⟩ := h; rfl) | (obtain ⟨_, _, _, rfl, _⟩ := h; rfl) | (obtain ⟨_, _, _, _, rfl, _⟩ := h; rfl) | (obtain ⟨_, _, _, _, _, rfl, _⟩ := h; rfl) | (obtain ⟨_, _, _, _, _, _, rfl, _⟩ := h; rfl) | (obtain ⟨_, _, _, _, _, _, _, rfl, _⟩ := h; rfl) | (obtain ⟨_, _, _, _, _, _, _, _, rfl, _⟩ := h; rfl) | (obtain ⟨_, _, _, _, _, _, _, _, _, rfl, _⟩ := h; rfl) | (obtain ⟨_, _, _, _, _, _, _, _, _, _, rfl, _⟩ := h; rfl) | (obtain ⟨_, _, _, _, _, _, _, _, _, _, _, rfl, _⟩ := h; rfl) | (obtain ⟨_, _, _, _, _, _, _, _, _, _, _, _, rfl, _⟩ := h; rfl) | (obtain ⟨_, _, _, _, _, _, _, _, _, _, _, _, _, rfl, _⟩ := h; rfl) | (obtain ⟨_, _, _, _, _, _, _, _, _, _, _, _, _, _, rfl, _⟩ := h; rfl)) (rd_cell K)
  have k__law_row := dv__law_row (P := P) (w := w) (b := b) (sp := spRow) F__law_row (PySem.W.mg_none_of X G no_abs) (PySem.W.mg_none_of X G no_range) (by intro vs H Q E h; first | (obtain ⟨_, rfl, _⟩ := h; rfl) | (obtain ⟨_, _, rfl, _⟩ := h; rfl) | (obtain ⟨_, _, _, rfl, _⟩ := h; rfl) | (obtain ⟨_, _, _, _, rfl, _⟩ := h; rfl) | (obtain ⟨_, _, _, _, _, rfl, _⟩ := h; rfl) | (obtain ⟨_, _, _, _, _, _, rfl, _⟩ := h; rfl) | (obtain ⟨_, _, _, _, _, _, _, rfl, _⟩ := h; rfl) | (obtain ⟨_, _, _, _, _, _, _, _, rfl, _⟩ := h; rfl) | (obtain ⟨_, _, _, _, _, _, _, _, _, rfl, _⟩ := h; rfl) | (obtain ⟨_, _, _, _, _, _, _, _, _, _, rfl, _⟩ := h; rfl) | (obtain ⟨_, _, _, _, _, _, _, _, _, _, _, rfl, _⟩ := h; rfl) | (obtain ⟨_, _, _, _, _, _, _, _, _, _, _, _, rfl, _⟩ := h; rfl) | (obtain ⟨_, _, _, _, _, _, _, _, _, _, _, _, _, rfl, _⟩ := h; rfl) | (obtain ⟨_, _, _, _, _, _, _, _, _, _, _, _, _, _, rfl, _⟩ := h; rfl)) (rd_row K)
  have k__law_names := dv__law_names (P := P) (w := w) (b := b) (sp := spNames) F__law_names (PySem.W.mg_none_of X G no_range) (PySem.W.mg_none_of X G no_int) (PySem.W.mg_none_of X G no_len) (by intro vs H Q E h; first | (obtain ⟨_, rfl, _⟩ := h; rfl) | (obtain ⟨_, _, rfl, _⟩ := h; rfl) | (obtain ⟨_, _, _, rfl, _⟩ := h; rfl) | (obtain ⟨_, _, _, _, rfl, _⟩ := h; rfl) | (obtain ⟨_, _, _, _, _, rfl, _⟩ := h; rfl) | (obtain ⟨_, _, _, _, _, _, rfl, _⟩ := h; rfl) | (obtain ⟨_, _, _, _, _, _, _, rfl, _⟩ := h; rfl) | (obtain ⟨_, _, _, _, _, _, _, _, rfl, _⟩ := h; rfl) | (obtain ⟨_, _, _, _, _, _, _, _, _, rfl, _⟩ := h; rfl) | (obtain ⟨_, _, _, _, _, _, _, _, _, _, rfl, _⟩ := h; rfl) | (obtain ⟨_, _, _, _, _, _, _, _, _, _, _, rfl, _⟩ := h; rfl) | (obtain ⟨_, _, _, _, _, _, _, _, _, _, _, _, rfl, _⟩ := h; rfl) | (obtain ⟨_, _, _, _, _, _, _, _, _, _, _, _, _, rfl, _⟩ := h; rfl) | (obtain ⟨_, _, _, _, _, _, _, _, _, _, _, _, _, _, rfl, _⟩ := h; rfl)) (rd_names K)
  have k__law_road := dv__law_road (P := P) (w := w) (b := b) (sp := spRoad) F__law_road (PySem.W.mg_none_of X G no_len) (PySem.W.mg_none_of X G no_int) (by intro vs H Q E h; first | (obtain ⟨_, rfl, _⟩ := h; rfl) | (obtain ⟨_, _, rfl, _⟩ := h; rfl) | (obtain ⟨_, _, _, rfl, _⟩ := h; rfl) | (obtain ⟨_, _, _, _, rfl, _⟩ := h; rfl) | (obtain ⟨_, _, _, _, _, rfl, _⟩ := h; rfl) | (obtain ⟨_, _, _, _, _, _, rfl, _⟩ := h; rfl) | (obtain ⟨_, _, _, _, _, _, _, rfl, _⟩ := h; rfl) | (obtain ⟨_, _, _, _, _, _, _, _, rfl, _⟩ := h; rfl) | (obtain ⟨_, _, _, _, _, _, _, _, _, rfl, _⟩ := h; rfl) | (obtain ⟨_, _, _, _, _, _, _, _, _, _, rfl, _⟩ := h; rfl) | (obtain ⟨_, _, _, _, _, _, _, _, _, _, _, rfl, _⟩ := h; rfl) | (obtain ⟨_, _, _, _, _, _, _, _, _, _, _, _, rfl, _⟩ := h; rfl) | (obtain ⟨_, _, _, _, _, _, _, _, _, _, _, _, _, rfl, _⟩ := h; rfl) | (obtain ⟨_, _, _, _, _, _, _, _, _, _, _, _, _, _, rfl, _⟩ := h; rfl)) (rd_road K)
  have k__law_town := dv__law_town (P := P) (w := w) (b := b) (sp := spTown K) F__law_town F__law_row k__law_row F__law_cell_at k__law_cell_at F__law_names k__law_names (PySem.W.mg_none_of X G no_len) F__law_road k__law_road (PySem.W.mg_none_of X G no_min) (PySem.W.mg_none_of X G no_tuple) (by intro vs H Q E h; first | (obtain ⟨_, rfl, _⟩ := h; rfl) | (obtain ⟨_, _, rfl, _⟩ := h; rfl) | (obtain ⟨_, _, _, rfl, _⟩ := h; rfl) | (obtain ⟨_, _, _, _, rfl, _⟩ := h; rfl) | (obtain ⟨_, _, _, _, _, rfl, _⟩ := h; rfl) | (obtain ⟨_, _, _, _, _, _, rfl, _⟩ := h; rfl) | (obtain ⟨_, _, _, _, _, _, _, rfl, _⟩ := h; rfl) | (obtain ⟨_, _, _, _, _, _, _, _, rfl, _⟩ := h; rfl) | (obtain ⟨_, _, _, _, _, _, _, _, _, rfl, _⟩ := h; rfl) | (obtain ⟨_, _, _, _, _, _, _, _, _, _, rfl, _⟩ := h; rfl) | (obtain ⟨_, _, _, _, _, _, _, _, _, _, _, rfl, _⟩ := h; rfl) | (obtain ⟨_, _, _, _, _, _, _, _, _, _, _, _, rfl, _⟩ := h; rfl) | (obtain ⟨_, _, _, _, _, _, _, _, _, _, _, _, _, rfl, _⟩ := h; rfl) | (obtain ⟨_, _, _, _, _, _, _, _, _, _, _, _, _, _, rfl, _⟩ := h; rfl)) (rd_town K)
  have k__law_shut := dv__law_shut (P := P) (w := w) (b := b) (sp := spShut) F__law_shut F__law_row k__law_row (PySem.W.mg_none_of X G no_tuple) (PySem.W.mg_none_of X G no_range) (PySem.W.mg_none_of X G no_len) (by intro vs H Q E h; first | (obtain ⟨_, rfl, _⟩ := h; rfl) | (obtain ⟨_, _, rfl, _⟩ := h; rfl) | (obtain ⟨_, _, _, rfl, _⟩ := h; rfl) | (obtain ⟨_, _, _, _, rfl, _⟩ := h; rfl) | (obtain ⟨_, _, _, _, _, rfl, _⟩ := h; rfl) | (obtain ⟨_, _, _, _, _, _, rfl, _⟩ := h; rfl) | (obtain ⟨_, _, _, _, _, _, _, rfl, _⟩ := h; rfl) | (obtain ⟨_, _, _, _, _, _, _, _, rfl, _⟩ := h; rfl) | (obtain ⟨_, _, _, _, _, _, _, _, _, rfl, _⟩ := h; rfl) | (obtain ⟨_, _, _, _, _, _, _, _, _, _, rfl, _⟩ := h; rfl) | (obtain ⟨_, _, _, _, _, _, _, _, _, _, _, rfl, _⟩ := h; rfl) | (obtain ⟨_, _, _, _, _, _, _, _, _, _, _, _, rfl, _⟩ := h; rfl) | (obtain ⟨_, _, _, _, _, _, _, _, _, _, _, _, _, rfl, _⟩ := h; rfl) | (obtain ⟨_, _, _, _, _, _, _, _, _, _, _, _, _, _, rfl, _⟩ := h; rfl)) (rd_shut K)
  have k__law_steps := dv__law_steps (P := P) (w := w) (b := b) (sp := spSteps) F__law_steps (PySem.W.mg_none_of X G no_range) (PySem.W.mg_none_of X G no_len) (by intro vs H Q E h; first | (obtain ⟨_, rfl, _⟩ := h; rfl) | (obtain ⟨_, _, rfl, _⟩ := h; rfl) | (obtain ⟨_, _, _, rfl, _⟩ := h; rfl) | (obtain ⟨_, _, _, _, rfl, _⟩ := h; rfl) | (obtain ⟨_, _, _, _, _, rfl, _⟩ := h; rfl) | (obtain ⟨_, _, _, _, _, _, rfl, _⟩ := h; rfl) | (obtain ⟨_, _, _, _, _, _, _, rfl, _⟩ := h; rfl) | (obtain ⟨_, _, _, _, _, _, _, _, rfl, _⟩ := h; rfl) | (obtain ⟨_, _, _, _, _, _, _, _, _, rfl, _⟩ := h; rfl) | (obtain ⟨_, _, _, _, _, _, _, _, _, _, rfl, _⟩ := h; rfl) | (obtain ⟨_, _, _, _, _, _, _, _, _, _, _, rfl, _⟩ := h; rfl) | (obtain ⟨_, _, _, _, _, _, _, _, _, _, _, _, rfl, _⟩ := h; rfl) | (obtain ⟨_, _, _, _, _, _, _, _, _, _, _, _, _, rfl, _⟩ := h; rfl) | (obtain ⟨_, _, _, _, _, _, _, _, _, _, _, _, _, _, rfl, _⟩ := h; rfl)) (rd_steps K)
  have k__law_chart := dv__law_chart (P := P) (w := w) (b := b) (sp := spChart) F__law_chart (PySem.W.mg_none_of X G no_len) (PySem.W.mg_none_of X G no_range) (PySem.W.mg_none_of X G no_int) F__law_steps k__law_steps (PySem.W.mg_none_of X G no_tuple) (by intro vs H Q E h; first | (obtain ⟨_, rfl, _⟩ := h; rfl) | (obtain ⟨_, _, rfl, _⟩ := h; rfl) | (obtain ⟨_, _, _, rfl, _⟩ := h; rfl) | (obtain ⟨_, _, _, _, rfl, _⟩ := h; rfl) | (obtain ⟨_, _, _, _, _, rfl, _⟩ := h; rfl) | (obtain ⟨_, _, _, _, _, _, rfl, _⟩ := h; rfl) | (obtain ⟨_, _, _, _, _, _, _, rfl, _⟩ := h; rfl) | (obtain ⟨_, _, _, _, _, _, _, _, rfl, _⟩ := h; rfl) | (obtain ⟨_, _, _, _, _, _, _, _, _, rfl, _⟩ := h; rfl) | (obtain ⟨_, _, _, _, _, _, _, _, _, _, rfl, _⟩ := h; rfl) | (obtain ⟨_, _, _, _, _, _, _, _, _, _, _, rfl, _⟩ := h; rfl) | (obtain ⟨_, _, _, _, _, _, _, _, _, _, _, _, rfl, _⟩ := h; rfl) | (obtain ⟨_, _, _, _, _, _, _, _, _, _, _, _, _, rfl, _⟩ := h; rfl) | (obtain ⟨_, _, _, _, _, _, _, _, _, _, _, _, _, _, rfl, _⟩ := h; rfl)) (rd_chart K)
  have k__law_task := dv__law_task (P := P) (w := w) (b := b) (sp := spTask K) F__law_task (PySem.W.mg_none_of X G no_max) (PySem.W.mg_none_of X G no_len) (PySem.W.mg_none_of X G no_min) (by intro vs H Q E h; first | (obtain ⟨_, rfl, _⟩ := h; rfl) | (obtain ⟨_, _, rfl, _⟩ := h; rfl) | (obtain ⟨_, _, _, rfl, _⟩ := h; rfl) | (obtain ⟨_, _, _, _, rfl, _⟩ := h; rfl) | (obtain ⟨_, _, _, _, _, rfl, _⟩ := h; rfl) | (obtain ⟨_, _, _, _, _, _, rfl, _⟩ := h; rfl) | (obtain ⟨_, _, _, _, _, _, _, rfl, _⟩ := h; rfl) | (obtain ⟨_, _, _, _, _, _, _, _, rfl, _⟩ := h; rfl) | (obtain ⟨_, _, _, _, _, _, _, _, _, rfl, _⟩ := h; rfl) | (obtain ⟨_, _, _, _, _, _, _, _, _, _, rfl, _⟩ := h; rfl) | (obtain ⟨_, _, _, _, _, _, _, _, _, _, _, rfl, _⟩ := h; rfl) | (obtain ⟨_, _, _, _, _, _, _, _, _, _, _, _, rfl, _⟩ := h; rfl) | (obtain ⟨_, _, _, _, _, _, _, _, _, _, _, _, _, rfl, _⟩ := h; rfl) | (obtain ⟨_, _, _, _, _, _, _, _, _, _, _, _, _, _, rfl, _⟩ := h; rfl)) (rd_task K)
  have k__law_scene := dv__law_scene (P := P) (w := w) (b := b) (sp := spScene K) F__law_scene F__law_town k__law_town F__law_row k__law_row F__law_cell_at k__law_cell_at F__law_names k__law_names (PySem.W.mg_none_of X G no_range) (PySem.W.mg_none_of X G no_max) (PySem.W.mg_none_of X G no_len) F__law_task k__law_task (PySem.W.mg_none_of X G no_sorted) (by intro vs H Q E h; first | (obtain ⟨_, rfl, _⟩ := h; rfl) | (obtain ⟨_, _, rfl, _⟩ := h; rfl) | (obtain ⟨_, _, _, rfl, _⟩ := h; rfl) | (obtain ⟨_, _, _, _, rfl, _⟩ := h; rfl) | (obtain ⟨_, _, _, _, _, rfl, _⟩ := h; rfl) | (obtain ⟨_, _, _, _, _, _, rfl, _⟩ := h; rfl) | (obtain ⟨_, _, _, _, _, _, _, rfl, _⟩ := h; rfl) | (obtain ⟨_, _, _, _, _, _, _, _, rfl, _⟩ := h; rfl) | (obtain ⟨_, _, _, _, _, _, _, _, _, rfl, _⟩ := h; rfl) | (obtain ⟨_, _, _, _, _, _, _, _, _, _, rfl, _⟩ := h; rfl) | (obtain ⟨_, _, _, _, _, _, _, _, _, _, _, rfl, _⟩ := h; rfl) | (obtain ⟨_, _, _, _, _, _, _, _, _, _, _, _, rfl, _⟩ := h; rfl) | (obtain ⟨_, _, _, _, _, _, _, _, _, _, _, _, _, rfl, _⟩ := h; rfl) | (obtain ⟨_, _, _, _, _, _, _, _, _, _, _, _, _, _, rfl, _⟩ := h; rfl)) (rd_scene K)
  have k__law_one_each := dv__law_one_each (P := P) (w := w) (b := b) (sp := spOne K) F__law_one_each (PySem.W.mg_none_of X G no_len) (PySem.W.mg_none_of X G no_set) (PySem.W.mg_none_of X G no_all) (by intro vs H Q E h; first | (obtain ⟨_, rfl, _⟩ := h; rfl) | (obtain ⟨_, _, rfl, _⟩ := h; rfl) | (obtain ⟨_, _, _, rfl, _⟩ := h; rfl) | (obtain ⟨_, _, _, _, rfl, _⟩ := h; rfl) | (obtain ⟨_, _, _, _, _, rfl, _⟩ := h; rfl) | (obtain ⟨_, _, _, _, _, _, rfl, _⟩ := h; rfl) | (obtain ⟨_, _, _, _, _, _, _, rfl, _⟩ := h; rfl) | (obtain ⟨_, _, _, _, _, _, _, _, rfl, _⟩ := h; rfl) | (obtain ⟨_, _, _, _, _, _, _, _, _, rfl, _⟩ := h; rfl) | (obtain ⟨_, _, _, _, _, _, _, _, _, _, rfl, _⟩ := h; rfl) | (obtain ⟨_, _, _, _, _, _, _, _, _, _, _, rfl, _⟩ := h; rfl) | (obtain ⟨_, _, _, _, _, _, _, _, _, _, _, _, rfl, _⟩ := h; rfl) | (obtain ⟨_, _, _, _, _, _, _, _, _, _, _, _, _, rfl, _⟩ := h; rfl) | (obtain ⟨_, _, _, _, _, _, _, _, _, _, _, _, _, _, rfl, _⟩ := h; rfl)) (rd_one K)
  have k__law_nearest := dv__law_nearest (P := P) (w := w) (b := b) (sp := spNearest K) F__law_nearest F_may_be_sent k_may_be_sent F_far k_far (PySem.W.mg_none_of X G no_min) (by intro vs H Q E h; first | (obtain ⟨_, rfl, _⟩ := h; rfl) | (obtain ⟨_, _, rfl, _⟩ := h; rfl) | (obtain ⟨_, _, _, rfl, _⟩ := h; rfl) | (obtain ⟨_, _, _, _, rfl, _⟩ := h; rfl) | (obtain ⟨_, _, _, _, _, rfl, _⟩ := h; rfl) | (obtain ⟨_, _, _, _, _, _, rfl, _⟩ := h; rfl) | (obtain ⟨_, _, _, _, _, _, _, rfl, _⟩ := h; rfl) | (obtain ⟨_, _, _, _, _, _, _, _, rfl, _⟩ := h; rfl) | (obtain ⟨_, _, _, _, _, _, _, _, _, rfl, _⟩ := h; rfl) | (obtain ⟨_, _, _, _, _, _, _, _, _, _, rfl, _⟩ := h; rfl) | (obtain ⟨_, _, _, _, _, _, _, _, _, _, _, rfl, _⟩ := h; rfl) | (obtain ⟨_, _, _, _, _, _, _, _, _, _, _, _, rfl, _⟩ := h; rfl) | (obtain ⟨_, _, _, _, _, _, _, _, _, _, _, _, _, rfl, _⟩ := h; rfl) | (obtain ⟨_, _, _, _, _, _, _, _, _, _, _, _, _, _, rfl, _⟩ := h; rfl)) (rd_nearest K)
  have k__law_walked := dv__law_walked (P := P) (w := w) (b := b) (sp := spWalked K) F__law_walked (PySem.W.mg_none_of X G no_dict) (PySem.W.mg_none_of X G no_sorted) F_waiting k_waiting F__law_nearest k__law_nearest F_may_be_sent k_may_be_sent F_far k_far (by intro vs H Q E h; first | (obtain ⟨_, rfl, _⟩ := h; rfl) | (obtain ⟨_, _, rfl, _⟩ := h; rfl) | (obtain ⟨_, _, _, rfl, _⟩ := h; rfl) | (obtain ⟨_, _, _, _, rfl, _⟩ := h; rfl) | (obtain ⟨_, _, _, _, _, rfl, _⟩ := h; rfl) | (obtain ⟨_, _, _, _, _, _, rfl, _⟩ := h; rfl) | (obtain ⟨_, _, _, _, _, _, _, rfl, _⟩ := h; rfl) | (obtain ⟨_, _, _, _, _, _, _, _, rfl, _⟩ := h; rfl) | (obtain ⟨_, _, _, _, _, _, _, _, _, rfl, _⟩ := h; rfl) | (obtain ⟨_, _, _, _, _, _, _, _, _, _, rfl, _⟩ := h; rfl) | (obtain ⟨_, _, _, _, _, _, _, _, _, _, _, rfl, _⟩ := h; rfl) | (obtain ⟨_, _, _, _, _, _, _, _, _, _, _, _, rfl, _⟩ := h; rfl) | (obtain ⟨_, _, _, _, _, _, _, _, _, _, _, _, _, rfl, _⟩ := h; rfl) | (obtain ⟨_, _, _, _, _, _, _, _, _, _, _, _, _, _, rfl, _⟩ := h; rfl)) (rd_walked K)
  have k_law := dv_law (P := P) (w := w) (b := b) (sp := spLaw K) F_law F__law_scene k__law_scene F__law_shut k__law_shut F__law_cell_at k__law_cell_at F__law_chart k__law_chart F_cut_off k_cut_off F_sendings k_sendings F__law_one_each k__law_one_each F__law_walked k__law_walked F_waiting k_waiting F__law_nearest k__law_nearest (by intro vs H Q E h; first | (obtain ⟨_, rfl, _⟩ := h; rfl) | (obtain ⟨_, _, rfl, _⟩ := h; rfl) | (obtain ⟨_, _, _, rfl, _⟩ := h; rfl) | (obtain ⟨_, _, _, _, rfl, _⟩ := h; rfl) | (obtain ⟨_, _, _, _, _, rfl, _⟩ := h; rfl) | (obtain ⟨_, _, _, _, _, _, rfl, _⟩ := h; rfl) | (obtain ⟨_, _, _, _, _, _, _, rfl, _⟩ := h; rfl) | (obtain ⟨_, _, _, _, _, _, _, _, rfl, _⟩ := h; rfl) | (obtain ⟨_, _, _, _, _, _, _, _, _, rfl, _⟩ := h; rfl) | (obtain ⟨_, _, _, _, _, _, _, _, _, _, rfl, _⟩ := h; rfl) | (obtain ⟨_, _, _, _, _, _, _, _, _, _, _, rfl, _⟩ := h; rfl) | (obtain ⟨_, _, _, _, _, _, _, _, _, _, _, _, rfl, _⟩ := h; rfl) | (obtain ⟨_, _, _, _, _, _, _, _, _, _, _, _, _, rfl, _⟩ := h; rfl) | (obtain ⟨_, _, _, _, _, _, _, _, _, _, _, _, _, _, rfl, _⟩ := h; rfl)) (rd_law K)
  exact k_law
end Wg
open PySem PySem.W PyProof.Rows
set_option maxHeartbeats 0 in
theorem PySem.Challenge.cw_wagoncalls_k47_whole_sent_as_promised_holds : PySem.Challenge.rw_wagoncalls_k47_whole_sent_as_promised.Holds := by
  w_on; o_law; k_head; (case hw => w_witness2)
  k_fill
  refine Wg.walk_end (l := PySem.Challenge.rw_wagoncalls_k47_whole_sent_as_promised) (n := 63) (k := 6) (x := "script") (sp := fun K => Wg.spLaw K) rfl (by decide) rfl ⟨⟨rfl, by decide, by decide⟩, rfl⟩ (fun w h Y => PySem.W.kIn_of Y) ?F ?S
  case S =>
    intro K H a ns hl ho hs
    exact ⟨a, ns, rfl, Wg.Scr.of ho hs, hl, fun _ => rfl⟩
  case F =>
    intro w mg fa h KX G hmg
    refine' Wg.all_mk KX G hmg ?ad_far ?lo_far ?co_far ?kp_far ?ad_waiting ?lo_waiting ?co_waiting ?kp_waiting ?ad_named ?lo_named ?co_named ?kp_named ?ad_may_be_sent ?lo_may_be_sent ?co_may_be_sent ?kp_may_be_sent ?ad_chosen ?lo_chosen ?co_chosen ?kp_chosen ?ad_freed ?lo_freed ?co_freed ?kp_freed ?ad_with_task ?lo_with_task ?co_with_task ?kp_with_task ?ad__is_cut_off ?lo__is_cut_off ?co__is_cut_off ?kp__is_cut_off ?ad_cut_off ?lo_cut_off ?co_cut_off ?kp_cut_off ?ad__next_call ?lo__next_call ?co__next_call ?kp__next_call ?ad__call_of ?lo__call_of ?co__call_of ?kp__call_of ?ad_sendings ?lo_sendings ?co_sendings ?kp_sendings ?ad__law_cell_at ?lo__law_cell_at ?co__law_cell_at ?kp__law_cell_at ?ad__law_row ?lo__law_row ?co__law_row ?kp__law_row ?ad__law_names ?lo__law_names ?co__law_names ?kp__law_names ?ad__law_road ?lo__law_road ?co__law_road ?kp__law_road ?ad__law_town ?lo__law_town ?co__law_town ?kp__law_town ?ad__law_shut ?lo__law_shut ?co__law_shut ?kp__law_shut ?ad__law_steps ?lo__law_steps ?co__law_steps ?kp__law_steps ?ad__law_chart ?lo__law_chart ?co__law_chart ?kp__law_chart ?ad__law_task ?lo__law_task ?co__law_task ?kp__law_task ?ad__law_scene ?lo__law_scene ?co__law_scene ?kp__law_scene ?ad__law_one_each ?lo__law_one_each ?co__law_one_each ?kp__law_one_each ?ad__law_nearest ?lo__law_nearest ?co__law_nearest ?kp__law_nearest ?ad__law_walked ?lo__law_walked ?co__law_walked ?kp__law_walked ?ad_law ?lo_law ?co_law ?kp_law ?cn_FREE ?lo_FREE ?no_max ?no_sorted ?no_min ?no_list ?no_len ?no_abs ?no_range ?no_int ?no_tuple ?no_set ?no_all ?no_dict
    (case ad_far => k_is)
    (case lo_far => k_is)
    (case co_far => k_is)
    (case kp_far => k_is)
    (case ad_waiting => k_is)
    (case lo_waiting => k_is)
    (case co_waiting => k_is)
    (case kp_waiting => k_is)
    (case ad_named => k_is)
    (case lo_named => k_is)
    (case co_named => k_is)
    (case kp_named => k_is)
    (case ad_may_be_sent => k_is)
    (case lo_may_be_sent => k_is)
    (case co_may_be_sent => k_is)
    (case kp_may_be_sent => k_is)
    (case ad_chosen => k_is)
    (case lo_chosen => k_is)
    (case co_chosen => k_is)
    (case kp_chosen => k_is)
    (case ad_freed => k_is)
    (case lo_freed => k_is)
    (case co_freed => k_is)
    (case kp_freed => k_is)
    (case ad_with_task => k_is)
    (case lo_with_task => k_is)
    (case co_with_task => k_is)
    (case kp_with_task => k_is)
    (case ad__is_cut_off => k_is)
    (case lo__is_cut_off => k_is)
    (case co__is_cut_off => k_is)
    (case kp__is_cut_off => k_is)
    (case ad_cut_off => k_is)
    (case lo_cut_off => k_is)
    (case co_cut_off => k_is)
    (case kp_cut_off => k_is)
    (case ad__next_call => k_is)
    (case lo__next_call => k_is)
    (case co__next_call => k_is)
    (case kp__next_call => k_is)
    (case ad__call_of => k_is)
    (case lo__call_of => k_is)
    (case co__call_of => k_is)
    (case kp__call_of => k_is)
    (case ad_sendings => k_is)
    (case lo_sendings => k_is)
    (case co_sendings => k_is)
    (case kp_sendings => k_is)
    (case ad__law_cell_at => k_is)
    (case lo__law_cell_at => k_is)
    (case co__law_cell_at => k_is)
    (case kp__law_cell_at => k_is)
    (case ad__law_row => k_is)
    (case lo__law_row => k_is)
    (case co__law_row => k_is)
    (case kp__law_row => k_is)
    (case ad__law_names => k_is)
    (case lo__law_names => k_is)
    (case co__law_names => k_is)
    (case kp__law_names => k_is)
    (case ad__law_road => k_is)
    (case lo__law_road => k_is)
    (case co__law_road => k_is)
    (case kp__law_road => k_is)
    (case ad__law_town => k_is)
    (case lo__law_town => k_is)
    (case co__law_town => k_is)
    (case kp__law_town => k_is)
    (case ad__law_shut => k_is)
    (case lo__law_shut => k_is)
    (case co__law_shut => k_is)
    (case kp__law_shut => k_is)
    (case ad__law_steps => k_is)
    (case lo__law_steps => k_is)
    (case co__law_steps => k_is)
    (case kp__law_steps => k_is)
    (case ad__law_chart => k_is)
    (case lo__law_chart => k_is)
    (case co__law_chart => k_is)
    (case kp__law_chart => k_is)
    (case ad__law_task => k_is)
    (case lo__law_task => k_is)
    (case co__law_task => k_is)
    (case kp__law_task => k_is)
    (case ad__law_scene => k_is)
    (case lo__law_scene => k_is)
    (case co__law_scene => k_is)
    (case kp__law_scene => k_is)
    (case ad__law_one_each => k_is)
    (case lo__law_one_each => k_is)
    (case co__law_one_each => k_is)
    (case kp__law_one_each => k_is)
    (case ad__law_nearest => k_is)
    (case lo__law_nearest => k_is)
    (case co__law_nearest => k_is)
    (case kp__law_nearest => k_is)
    (case ad__law_walked => k_is)
    (case lo__law_walked => k_is)
    (case co__law_walked => k_is)
    (case kp__law_walked => k_is)
    (case ad_law => k_is)
    (case lo_law => k_is)
    (case co_law => k_is)
    (case kp_law => k_is)
    (case cn_FREE => k_is)
    (case lo_FREE => k_is)
    (case no_max => k_is)
    (case no_sorted => k_is)
    (case no_min => k_is)
    (case no_list => k_is)
    (case no_len => k_is)
    (case no_abs => k_is)
    (case no_range => k_is)
    (case no_int => k_is)
    (case no_tuple => k_is)
    (case no_set => k_is)
    (case no_all => k_is)
    (case no_dict => k_is)
