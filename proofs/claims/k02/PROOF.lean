import PyProof.Rows.All
import Wide.All
import OpenK.AllK
import Wide.FinOn
import HandS.Base
import HandS.Call
import HandS.List
import HandS.Comp
import HandS.Ends
import HandS.Dict
import HandS.Iter
import HandS.Text
import HandS.Words
import PyProof.AutoSeq1
import PyProof.ReprRoads
import PyProof.CallFns
import HandS.IsInst
import HandS.Flow
import HandS.Style
import PyProof.FitsInt
import PyProof.StrLawsRepr
import PySem.Challenge.RW_wagoncalls_k02_moments_and_grades
set_option Elab.async false
set_option linter.all false
set_option maxRecDepth 100000
set_option maxHeartbeats 4000000
/-! Wagon, part 1: promises of defs that are called where no repr runs (so that what repr tells is known). -/
namespace Wg
open PySem PySem.Spec PyProof.Rows L2

/-- room for calls, and no repr under way -/
structure Rm (k : Nat) (A : Around) : Prop where
  rm : Room k A
  gd : A.guards = some []
theorem Rm.mono {j k : Nat} {A : Around} (r : Rm k A) (h : j ≤ k) : Rm j A := ⟨r.rm.mono h, r.gd⟩
theorem Rm.deep {k : Nat} {A : Around} (r : Rm (k + 1) A) (v : Env) : Rm k (A.deeper v) := ⟨r.rm.deeper v, r.gd⟩

/-- the def at f keeps the promise sp -/
structure Keeps (P : Program) (w : World) (K : PySem.W.Frag) (mg : Str → Option Value) (b : Heap) (CX : CXT) (k : Nat) (f : Addr) (fd : FuncData) (ps : List Str) (sp : Sp) : Prop where
  len : ∀ vs H Q E, sp vs H Q E → vs.length = ps.length
  run : ∀ (A : Around) (o : List Env) (s : Shared) (H : Hp) (g : Args) (us : List Value) (vs : List V) (Q : VK) (E : XK),
    Rm k A → Env0 P w K mg b A o s H → BindsTo s fd g (ps.zip us) → Vals vs us → sp vs H Q E →
      codeAny (model P w) A (.call (.ref f) g) (CR CX o P w H s Q E) s
theorem Keeps.up {P : Program} {w : World} {K : PySem.W.Frag} {mg : Str → Option Value} {b : Heap} {CX : CXT} {j k : Nat} {f : Addr} {fd : FuncData} {ps : List Str} {sp : Sp}
    (F : Keeps P w K mg b CX j f fd ps sp) (h : j ≤ k) : Keeps P w K mg b CX k f fd ps sp :=
  ⟨F.len, fun A o s H g us vs Q E hr => F.run A o s H g us vs Q E (hr.mono h)⟩
theorem Keeps.weak {P : Program} {w : World} {K : PySem.W.Frag} {mg : Str → Option Value} {b : Heap} {CX : CXT} {k : Nat} {f : Addr} {fd : FuncData} {ps : List Str} {sp sp' : Sp}
    (F : Keeps P w K mg b CX k f fd ps sp) (h : ∀ vs H Q E, sp' vs H Q E → sp vs H Q E) : Keeps P w K mg b CX k f fd ps sp' :=
  ⟨fun vs H Q E q => F.len vs H Q E (h _ _ _ _ q), fun A o s H g us vs Q E h1 h2 h3 h4 h5 => F.run A o s H g us vs Q E h1 h2 h3 h4 (h _ _ _ _ h5)⟩

section
variable {X : Cx} {CX : CXT} {k : Nat} {f : Addr} {fd : FuncData} {ps : List Str} {sp : Sp} {E : XK} {x : Str} {p pos : Pos} {e : Expr} {es : List Expr} {t : TA}
theorem go_fn {pins : List (Addr × Obj)} {σ : L2.St} {H : Hp} {s : Shared} {Q : VK} {us : List Value} {vs : List V}
    (F : Keeps X.prog X.w X.K X.mg X.base CX k f fd ps sp) (hr : Rm k X.A) (hb : Binds X.K fd ps []) (hx : Passes CX X E)
    (I : Inv X pins σ H s) (r : Vals vs us) (h : sp vs H Q E) : wpAny (model X.prog X.w) X.A (call (.ref f) us) (EP X pins σ Q) X.xe s := by
  have hl : (us ++ []).length = ps.length := by
    rw [List.append_nil, ← r.length]
    exact F.len _ _ _ _ h
  have hbs := hb s us I.kIn hl
  rw [List.append_nil] at hbs
  have run := F.run X.A X.stack s H ⟨us, []⟩ us vs Q E hr I.env0 hbs r h
  refine wpAny_call (codeAny_mono run fun res s' hq => ?_)
  match res, hq with
  | .error e, hq => exact hx pins σ H s e s' I hq
  | .ok (.ret u), hq => exact I.after hq
  | .ok .next, hq => exact hq.elim
  | .ok .brk, hq => exact hq.elim
  | .ok .cont, hq => exact hq.elim
/-- f(e, ..), f a def of the text -/
def tGo (sp : Sp) (E : XK) (t : TA) : TE := fun σ H Q => t σ H fun vs H1 => sp vs H1 Q E
theorem pe_go (F : Keeps X.prog X.w X.K X.mg X.base CX k f fd ps sp) (hr : Rm k X.A) (hg : Gl X x) (hm : X.mg x = some (.ref f)) (hk : PySem.W.keepIn X.K (.ref f) = true)
    (hb : Binds X.K fd ps []) (hx : Passes CX X E) (ha : PA X (e :: es) t) (hdb : (x == ("__debug__" : Str)) = false := by decide)
    (he : starEach (e :: es) X.env = (false, eval e X.env) :: starEach es X.env := by rfl) (hpl : (backTo pos (starEach es X.env)).any (·.1) = false := by rfl) :
    PE X (.Call (.Name x p) (e :: es) [] pos) (tGo sp E t) := by
  constructor
  intro pins s σ H Q I h
  refine wpAny_Call_Name_kw (ld_glob I hg hm ?_ hdb)
  have args := ha.run pos pins s σ H _ I h
  refine PySem.W.callWith_K (h₀ := X.base) I.ok.mod.kin hk (thn args fun us s1 hh => ?_) he hpl
  obtain ⟨vs, H1, I1, r, q⟩ := hh
  exact ⟨I1.kIn, go_fn F hr hb hx I1 r q⟩
theorem pe_go0 (F : Keeps X.prog X.w X.K X.mg X.base CX k f fd ps sp) (hr : Rm k X.A) (hg : Gl X x) (hm : X.mg x = some (.ref f)) (hk : PySem.W.keepIn X.K (.ref f) = true)
    (hb : Binds X.K fd ps []) (hx : Passes CX X E) (hdb : (x == ("__debug__" : Str)) = false := by decide) : PE X (.Call (.Name x p) [] [] pos) (tGo sp E tNil) := by
  constructor
  intro pins s σ H Q I h
  refine wpAny_Call_Name_kw (ld_glob I hg hm ?_ hdb)
  exact PySem.W.callWith_K0 I.kIn hk (go_fn (us := []) F hr hb hx I .nil h)
end

section
variable {P : Program} {w : World} {K : PySem.W.Frag} {mg : Str → Option Value} {b : Heap}
/-- a def keeps its promise, by its body -/
theorem keeps_of {CX : CXT} {x qual : Str} {st : Stmt} {f : Addr} {fd : FuncData} {N ps : List Str} {k : Nat} {sp : Sp} (F : Fun K x qual st f fd) (S : FnScope N ps (defScope st))
    (len : ∀ vs H Q E, sp vs H Q E → vs.length = ps.length)
    (body : ∀ (cdv : Value) (A : Around) (o : List Env) (s : Shared) (H : Hp) (vs : List V) (Q : VK) (E : XK), Rm k (A.deeper (envOfC qual (defScope st) s.heap.objs.size f cdv)) → sp vs H Q E →
      ∃ t, PSs (cxOf CX P w K mg b N qual (defScope st) f cdv A o s H E) (defBody st) t ∧ t { nx := fun _ H' => Q .non H', rt := Q } (start N vs) H) :
    Keeps P w K mg b CX (k + 1) f fd ps sp := by
  obtain ⟨oc, od, kV, doc, pm, an, cdv, ct, osl, rfl, lk, hcd⟩ := F.ex
  constructor
  · exact len
  intro A o s H g us vs Q E hr e0 hb r hsp
  have hl := len _ _ _ _ hsp
  have up : ∀ {a : Addr} {ob : Obj}, b.get? a = some ob → s.heap.get? a = some ob := fun {a ob} q => (e0.bs a ob q).1
  have inK : K.In s.heap := e0.mod.kin.keeps fun _ _ q => up q
  have nolim : s.heap.NoLimit := e0.mod.nolimit.keeps fun _ _ q => up q
  have kinds : ∀ y ∈ ps.zip us, (defScope st).names.lookup y.1 = some .local ∨ ((defScope st).names.lookup y.1 = some .cell ∧ ((cellsFrom (s.heap.objs.size + 1) (defScope st).names []).lookup y.1).isSome = true) := by
    rintro ⟨n, v⟩ hy
    have hn := S.par n (List.of_mem_zip hy).1
    exact hn.imp id fun q => ⟨q, PySem.W.cellsFrom_some _ _ _ (.inl q)⟩
  have recd := PySem.W.codeRec_of inK hcd
  refine codeAny_call_function hr.rm.depth (inK _ _ lk) rfl S.co S.gen rfl recd (hb _ _ _ _ ?_)
  refine wpAny_newFunctionEnv_cells S.kind kinds ?_
  intro env he s1 y
  subst he
  refine ⟨nolim.keeps y.toInCall.keep, codeAny_func ?_⟩
  obtain ⟨t, ht, hq⟩ := body cdv A o s H vs Q E (hr.deep _) hsp
  have I := inv_start (CX := CX) (E := E) S hr.rm.hd e0 hl r y
  refine wpAny_mono (ht.run [] s1 (start N vs) H _ I hq) ?_ fun _ _ q => q
  intro fl s' hs
  match fl, hs with
  | .ret u, hs =>
    obtain ⟨v, σ', H', J, rv, q⟩ := hs
    exact ⟨v, H', J.os, J.bare, J.base, J.hok, rv, q⟩
  | .next, hs =>
    obtain ⟨σ', H', J, q⟩ := hs
    exact ⟨.non, H', J.os, J.bare, J.base, J.hok, rfl, q⟩
  | .brk, hs => exact hs.elim fun _ z => z.elim fun _ y => y.2.elim
  | .cont, hs => exact hs.elim fun _ z => z.elim fun _ y => y.2.elim
theorem keeps0 {x qual : Str} {st : Stmt} {f : Addr} {fd : FuncData} {N ps : List Str} {k : Nat} {sp : Sp} (F : Fun K x qual st f fd) (S : FnScope N ps (defScope st))
    (len : ∀ vs H Q E, sp vs H Q E → vs.length = ps.length)
    (body : ∀ (cdv : Value) (A : Around) (o : List Env) (s : Shared) (H : Hp) (vs : List V) (Q : VK) (E : XK), Rm k (A.deeper (envOfC qual (defScope st) s.heap.objs.size f cdv)) → sp vs H Q E →
      ∃ t, PSs (cxOf CX0 P w K mg b N qual (defScope st) f cdv A o s H E).nox (defBody st) t ∧ t { nx := fun _ H' => Q .non H', rt := Q } (start N vs) H) :
    Keeps P w K mg b CX0 (k + 1) f fd ps sp :=
  keeps_of F S len fun cdv A o s H vs Q E hr h => (body cdv A o s H vs Q E hr h).elim fun t q => ⟨t, q.1.nox, q.2⟩
end

/-- the law's call, from its promise -/
theorem law_end {P : Program} {w : World} {K : PySem.W.Frag} {mg mb : Str → Option Value} {k : Nat} {fa a : Addr} {fd : FuncData} {x : Str} {sp : Sp} {s : Shared} {vs : List Value} {ns : List Int}
    (KX : K.In s.heap) (hns : s.heap.Ns mainGlobals mg) (hb : s.heap.Ns builtinsNs mb) (hbb : ∀ x : Str, x ≠ "__name__" → mb x = bootBuiltins x) (hlim : s.heap.NoLimit) (hg : s.gens = #[])
    (ha : s.heap.get? a = some { cls := .type "list", data := .seq vs.toArray }) (hi : IntsAre vs ns) (hl : ns.length ≤ sizeLine) (hr : Rm k callerA)
    (F : ∀ b : Heap, K.In b → b.Ns mainGlobals mg → Keeps P w K mg b CX0 k fa fd [x] sp) (hbind : ∀ (s : Shared) (u : Value), BindsTo s fd ⟨[u], []⟩ [(x, u)])
    (hsp : ∀ H : Hp, Only H → SqL K H a (ns.map V.int) → sp [.ref a] H (fun v _ => v = .bl true) fun _ _ _ => False) :
    codeAny (model P w) callerA (.call (.ref fa) ⟨[.ref a], []⟩) (fun r s' => r = .ok (.ret (.bool true)) ∧ OldK s.heap s'.heap ∧ s'.os = s.os ∧ AllBare s'.gens) s := by
  -- a promise at callerA alone, dressed as one of the layer's at that place
  have lenV := hi.length
  have rv := vals_ints hi
  suffices core : ∀ H : Hp, Only H → SqL K H a (ns.map V.int) → HOk P w H s.heap → (∀ c, H c ≠ none → c = a) → (H a ≠ none → K.lookup a = none) →
      codeAny (model P w) callerA (.call (.ref fa) ⟨[.ref a], []⟩) (fun r s' => r = .ok (.ret (.bool true)) ∧ OldK s.heap s'.heap ∧ s'.os = s.os ∧ AllBare s'.gens) s by
    match hk : K.lookup a with
    | some o =>
      have eo := (KX a o hk).symm.trans ha
      obtain rfl := Option.some.inj eo
      refine core (fun _ => none) (fun _ => .inl rfl) (.inr ⟨_, vs.toArray, _, hk, rfl, rfl, rfl, ?_, by simpa using rv⟩) ?_ (fun c z => absurd rfl z) (fun z => absurd rfl z)
      · rw [List.size_toArray, lenV]; exact hl
      · intro c u z; exact nomatch z
    | none =>
      let H0 : Hp := fun c => if c = a then some (.frz { cls := .type "list", data := .seq vs.toArray } (.lst (ns.map V.int))) else none
      have at0 : H0 a = some (.frz { cls := .type "list", data := .seq vs.toArray } (.lst (ns.map V.int))) := if_pos rfl
      have ne0 : ∀ c, c ≠ a → H0 c = none := fun c hc => if_neg hc
      refine core H0 (fun c => ?_) (.inl (.inr ⟨_, at0⟩)) (fun c u z => ?_) (fun c z => ?_) fun _ => hk
      · by_cases hc : c = a
        · exact .inr ⟨_, _, by rw [hc]; exact at0⟩
        · exact .inl (ne0 c hc)
      · by_cases hc : c = a
        · subst hc
          obtain rfl := Option.some.inj (at0.symm.trans z)
          exact ⟨ha, by rw [List.length_map]; exact hl, vs, _, rv, ha⟩
        · exact nomatch (ne0 c hc).symm.trans z
      · exact Classical.byContradiction fun hc => z (ne0 c hc)
  intro H hO hS hok hA hK
  have only : ∀ {c : Addr} {u : HO}, H c = some u → c = a := fun {c u} q => hA c (by rw [q]; exact Option.some_ne_none u)
  have stays : ∀ {c : Addr} {o : Obj} {es : Array DictEntry} {ep : Nat}, s.heap.get? c = some o → o.data = .dict es ep → H c = none := by
    intro c o es ep e d
    match q : H c with
    | none => rfl
    | some u =>
      rw [only q, ha] at e
      obtain rfl := Option.some.inj e
      cases (show Data.seq vs.toArray _ = Data.dict es ep from d)
  have ns' : ∀ {c : Addr} {m : Str → Option Value}, s.heap.Ns c m → (hidT s.heap H).Ns c m := by
    rintro c m ⟨o, es, ep, e, d, r⟩
    exact ⟨o, es, ep, hidT_get e (stays e d), d, r⟩
  have kin : K.In (hidT s.heap H) := by
    intro c o e
    refine hidT_get (KX c o e) ?_
    match q : H c with
    | none => rfl
    | some u =>
      have ec := only q
      subst ec
      rw [hK (by rw [q]; exact Option.some_ne_none u)] at e
      cases e
  obtain ⟨mc, l1, l2⟩ := hlim
  have M : Mod K mg (hidT s.heap H) := ⟨kin, ns' hns, ⟨mb, ns' hb, hbb⟩, ⟨mc, ns' l1, l2⟩⟩
  have e0 : Env0 P w K mg (hidT s.heap H) callerA [] s H :=
    ⟨rfl, M, fun c o e => of_hidT e, Nat.le_of_eq (hidT_size _ _), trivial, fun c hc => (List.not_mem_nil hc).elim, hok, .of_eq hg⟩
  have run := (F _ kin (ns' hns)).run callerA [] s H ⟨[.ref a], []⟩ [.ref a] [.ref a] _ _ hr e0 (hbind s (.ref a)) (.cons rfl .nil) (hsp H hO hS)
  refine codeAny_mono run fun res s' hq => ?_
  match res, hq with
  | .error e, hq => exact hq.elim
  | .ok .next, hq => exact hq.elim
  | .ok .brk, hq => exact hq.elim
  | .ok .cont, hq => exact hq.elim
  | .ok (.ret u), hq =>
    obtain ⟨v, H', os, bare, un, hok', r', q⟩ := hq
    obtain rfl : v = .bl true := q
    obtain rfl : u = Value.bool true := r'
    refine ⟨rfl, OldK.of_keep fun c o e => ?_, os, bare⟩
    rcases hO c with z | ⟨ob, xs, z⟩
    · exact un.keep c o e z List.not_mem_nil List.not_mem_nil
    · have z1 := (hok c _ z).1
      have z2 := (hok' c _ (un.frzs c ob _ z)).1
      exact z2.trans (z1.symm.trans e)

theorem walk_end {l : PySem.W.OpenLaw} {n k : Nat} {q : Program} {loose : List Str} {XP : (Str → Option Value) → Heap → Prop} {YP : World → Heap → Prop} {d : DefRec} {K : Params → PySem.W.Frag} {sp : PySem.W.Frag → Sp} {x : Str}
    (hn : l.most = some n) (hn2 : n ≤ sizeLine) (hdf : d.params.defaults = []) (hr : Rm k callerA) (hY : ∀ (w : World) (h : Heap), YP w h → (K w.params).In h)
    (F : ∀ (w : World) (mg : Str → Option Value) (fa : Addr) (h : Heap), (K w.params).In h → h.Ns mainGlobals mg → mg d.name = some (.ref fa) →
      ∃ fd : FuncData, (∀ (s : Shared) (u : Value), BindsTo s fd ⟨[u], []⟩ [(x, u)]) ∧
        ∀ b : Heap, (K w.params).In b → b.Ns mainGlobals mg → Keeps l.prog w (K w.params) mg b CX0 k fa fd [x] (sp (K w.params)))
    (hsp : ∀ (K : PySem.W.Frag) (H : Hp) (a : Addr) (ns : List Int), ns.length ≤ n → Only H → SqL K H a (ns.map V.int) → sp K [.ref a] H (fun v _ => v = .bl true) fun _ _ _ => False) :
    PySem.W.WalkO q loose XP YP l.row.toRowW d [] (fun f vs => PySem.call f vs) := by
  refine Att.attach_call hn hdf ?_
  intro w s₀ s₁ mg mb fa o pm cd doc a vs ns G Y ho hd hcd hmg hobj hints hlen hg
  have kin := hY w _ Y
  obtain ⟨fd, hb, hF⟩ := F w mg fa _ kin G.T.g hmg
  exact law_end kin G.T.g G.T.b G.T.builtins G.T.nolimit hg hobj hints (Nat.le_trans hlen hn2) hr hF hb fun H hO hS => hsp _ H a ns hlen hO hS
end Wg

/-! Wagon, part 2: heaps that are not written out, and the rules of operators, calls and methods in that style. -/
namespace Wg
open PySem PySem.Spec PyProof.Rows L2

/-- all but what stands at S is kept -/
def Keep (S : List Addr) (H H' : Hp) : Prop := ∀ b o, b ∉ S → H b = some o → H' b = some o
theorem Keep.at {S : List Addr} {H H' : Hp} {b : Addr} {o : HO} (k : Keep S H H') (n : b ∉ S) (h : H b = some o) : H' b = some o := k b o n h
theorem Keep.refl (S : List Addr) (H : Hp) : Keep S H H := fun _ _ _ h => h
theorem Keep.trans {S : List Addr} {H H1 H2 : Hp} (a : Keep S H H1) (b : Keep S H1 H2) : Keep S H H2 := fun c o n h => b c o n (a c o n h)
theorem Keep.wide {S T : List Addr} {H H' : Hp} (k : Keep S H H') (h : ∀ b ∈ S, b ∈ T) : Keep T H H' := fun b o n q => k b o (fun z => n (h b z)) q
theorem Keep.all {S : List Addr} {H H' : Hp} (k : Keep [] H H') : Keep S H H' := k.wide fun _ h => (List.not_mem_nil h).elim
theorem Keep.free {S : List Addr} {H H' : Hp} {b : Addr} (k : Keep S H H') (n : b ∉ S) (h : H' b = none) : H b = none := by
  match q : H b with
  | none => rfl
  | some o => exact nomatch h.symm.trans (k b o n q)
theorem Keep.new {S : List Addr} {H : Hp} {p : Addr} {o : HO} (h : H p = none) : Keep S H (upd H p o) := fun b u _ q => by
  rw [upd_ne (ne_of_none q h)]
  exact q
theorem Keep.set {H : Hp} {p : Addr} {o : HO} : Keep [p] H (upd H p o) := fun b u n q => by
  rw [upd_ne (fun z : b = p => n (by rw [z]; exact List.mem_singleton.mpr rfl))]
  exact q
theorem nin0 {b : Addr} : b ∉ ([] : List Addr) := List.not_mem_nil
theorem nin1 {a b : Addr} (h : b ≠ a) : b ∉ [a] := fun z => h (List.mem_singleton.mp z)
/-- a tuple that stands still, of no dict of its own -/
def Tup (H : Hp) (a : Addr) (xs : List V) : Prop := ∃ ob : Obj, H a = some (.frz ob (.tup xs)) ∧ ob.dict = none ∧ ob.slots = #[]
theorem Tup.sq {K : PySem.W.Frag} {H : Hp} {a : Addr} {xs : List V} (h : Tup H a xs) : SqT K H a xs := let ⟨ob, e, _⟩ := h; .inl (.inr ⟨ob, e⟩)
theorem Tup.keep {S : List Addr} {H H' : Hp} {a : Addr} {xs : List V} (h : Tup H a xs) (k : Keep S H H') (n : a ∉ S) : Tup H' a xs := let ⟨ob, e, d⟩ := h; ⟨ob, k a _ n e, d⟩
theorem Tup.inj {H : Hp} {a : Addr} {xs ys : List V} (h : Tup H a xs) (h' : Tup H a ys) : xs = ys := by
  obtain ⟨o1, e1, _⟩ := h
  obtain ⟨o2, e2, _⟩ := h'
  have q := Option.some.inj (e1.symm.trans e2)
  injection q with _ q
  exact HO.tup.inj q
theorem Tup.there {H : Hp} {a : Addr} {xs : List V} (h : Tup H a xs) : ∃ o, H a = some o := let ⟨ob, e, _⟩ := h; ⟨_, e⟩
theorem Tup.neL {H : Hp} {a b : Addr} {xs ys : List V} (h : Tup H a xs) (h' : H b = some (.lst ys)) : a ≠ b := fun z => by
  obtain ⟨o1, e1, _⟩ := h
  rw [z, h'] at e1
  cases e1
theorem Tup.neD {H : Hp} {a b : Addr} {xs : List V} {ys : List (Key × V)} (h : Tup H a xs) (h' : H b = some (.dK ys)) : a ≠ b := fun z => by
  obtain ⟨o1, e1, _⟩ := h
  rw [z, h'] at e1
  cases e1
theorem lst_sq {K : PySem.W.Frag} {H : Hp} {a : Addr} {xs : List V} (h : H a = some (.lst xs)) : SqL K H a xs := .inl (.inl h)
theorem sq_keep {K : PySem.W.Frag} {H H' : Hp} {S : List Addr} {a : Addr} {xs : List V} (h : SqL K H a xs) (k : Keep S H H') (n : a ∉ S) : SqL K H' a xs := by
  rcases h with (h | ⟨o, h⟩) | h
  · exact .inl (.inl (k _ _ n h))
  · exact .inl (.inr ⟨o, k _ _ n h⟩)
  · exact .inr h

/-- a new object o comes -/
def Mk (H : Hp) (o : HO) (Q : VK) : Prop := ∀ p H', H p = none → Keep [] H H' → H' p = some o → Q (.ref p) H'
/-- a new tuple comes -/
def Mt (H : Hp) (xs : List V) (Q : VK) : Prop := ∀ p H', H p = none → Keep [] H H' → Tup H' p xs → Q (.ref p) H'
/-- what stands at a is o from now on -/
def Ch (H : Hp) (a : Addr) (o : HO) (R : Hp → Prop) : Prop := ∀ H', Keep [a] H H' → H' a = some o → R H'
theorem Mk.at {H : Hp} {o : HO} {Q : VK} (h : Mk H o Q) (p : Addr) (n : H p = none) : Q (.ref p) (upd H p o) := h p _ n (Keep.new n) upd_same
theorem Ch.at {H : Hp} {a : Addr} {o : HO} {R : Hp → Prop} (h : Ch H a o R) : R (upd H a o) := h _ Keep.set upd_same

section
variable {X : Cx} {pins : List (Addr × Obj)} {σ : L2.St} {H : Hp} {s : Shared}
/-- a tuple object as the model lays it -/
abbrev tupObj (its : List Value) : Obj := { cls := .type "tuple", data := .seq its.toArray }
theorem mt_end {xs : List V} {its : List Value} {Q : VK} {t' : Nat} (I : Inv X pins σ H s) (r : Vals xs its) (z : xs.length ≤ sizeLine) (h : Mt H xs Q) :
    EP X pins σ Q (.ref s.heap.objs.size) { s with heap := s.heap.push (tupObj its), toks := t' } := by
  have n : H s.heap.objs.size = none := I.hok.fresh (Nat.le_refl _)
  have new : (s.heap.push (tupObj its)).get? s.heap.objs.size = some (tupObj its) := Heap.get?_push_size _ rfl
  refine ⟨.ref s.heap.objs.size, upd H s.heap.objs.size (.frz (tupObj its) (.tup xs)), I.laid (fun b u e => Heap.get?_push_of_some _ e) (Nat.le_refl _) ?_, rfl, ?_⟩
  · exact ⟨new, z, its, r, _, new, rfl, _, rfl⟩
  · exact h _ _ n (Keep.new n) ⟨_, upd_same, rfl, rfl⟩
/-- the object of such a tuple -/
theorem Tup.obj {a : Addr} {xs : List V} (I : Inv X pins σ H s) (h : Tup H a xs) : ∃ (its : List Value) (n : Nat), Vals xs its ∧ xs.length ≤ sizeLine ∧ s.heap.get? a = some { cls := .type "tuple", dict := none, data := .seq its.toArray n, slots := #[] } := by
  obtain ⟨ob, e, d, sl⟩ := h
  obtain ⟨h1, z, its, r, o2, h2, c, n, hd⟩ := I.hok a _ e
  have eo := Option.some.inj (h1.symm.trans h2)
  obtain ⟨c0, d0, da, s0⟩ := ob
  subst eo
  simp only at c hd d sl
  subst c hd d sl
  exact ⟨its, n, r, z, h1⟩
end

/-! ### operators -/
section
variable {X : Cx}
def uAdd (K : PySem.W.Frag) : R2 := fun x y H Q =>
  (∃ i j, x = .int i ∧ y = .int j ∧ Q (.int (i + j)) H) ∨
  (∃ i j, x = .str i ∧ y = .str j ∧ i.length + j.length ≤ sizeLine ∧ Q (.str (i ++ j)) H) ∨
  (∃ l b xs zs, x = .ref l ∧ y = .ref b ∧ H l = some (.lst xs) ∧ H b = some (.lst zs) ∧ xs.length + zs.length ≤ sizeLine ∧ Mk H (.lst (xs ++ zs)) Q) ∨
  (∃ a b xs ys, x = .ref a ∧ y = .ref b ∧ Tup H a xs ∧ Tup H b ys ∧ xs.length + ys.length ≤ sizeLine ∧ (xs = [] → Q y H) ∧ (xs ≠ [] → ys = [] → Q x H) ∧ (xs ≠ [] → ys ≠ [] → Mt H (xs ++ ys) Q))
theorem cat_none {pins : List (Addr × Obj)} {σ : L2.St} {H : Hp} {s : Shared} {a b : Addr} {ys : List V} {Q : VK} (I : Inv X pins σ H s) (ha : Tup H a []) (hb : Tup H b ys) (q : Q (.ref b) H) :
    wpAny (model X.prog X.w) X.A (binaryOp .Add (.ref a) (.ref b)) (EP X pins σ Q) X.xe s := by
  obtain ⟨its, n, r, _, ho⟩ := ha.obj I
  obtain ⟨its2, n2, r2, _, ho2⟩ := hb.obj I
  cases r
  exact concat_meets ⟨_, ho, rfl⟩ ⟨_, ho2, rfl⟩ noFill_tuple_add seq_tuple_add PySem.F.slot_tuple_add PySem.F.entry_tuple_add (PySem.F.args_tuple_add_2 _ _)
    (AutoSeq1.tuple___add___tuple_tuple_0 a #[] n b its2.toArray n2 rfl) ⟨ho, ho2, ⟨.ref b, H, I, rfl, q⟩⟩
theorem op_uAdd : OpR X (binaryOp .Add) (uAdd X.K) := by
  intro pins s σ H x y v u Q I rx ry h
  rcases h with h | h | h | ⟨a, b, xs, ys, rfl, rfl, ha, hb, z, q0, q1, q2⟩
  · exact op_add pins s σ H x y v u Q I rx ry h
  · exact op_add_str pins s σ H x y v u Q I rx ry h
  · obtain ⟨l, b, xs, zs, e1, e2, h1, h2, h3, q⟩ := h
    exact op_cat pins s σ H x y v u Q I rx ry ⟨l, b, xs, zs, e1, e2, h1, h2, h3, fun p n => q.at p n⟩
  · cases rx
    cases ry
    by_cases e : xs = []
    · subst e
      exact cat_none I ha hb (q0 rfl)
    · obtain ⟨its, r1, p1, _⟩ := I.tuple ha.sq
      obtain ⟨its2, r2, p2, _⟩ := I.tuple hb.sq
      refine HT.cat_tup p1 p2 (fun c => e (r1.nil_iff.mp c)) (fun c => ⟨.ref a, H, I, rfl, q1 e (r2.nil_iff.mp c)⟩) (fun c => ?_) (by rw [← r1.length, ← r2.length]; exact z)
      exact mt_end (t' := s.toks) I (r1.append r2) (by rw [List.length_append]; exact z) (q2 e fun d => c (r2.nil_iff.mpr d))
def uMul : R2 := fun x y H Q =>
  (∃ i j, x = .int i ∧ y = .int j ∧ CMul i j ∧ Q (.int (i * j)) H) ∨
  (∃ l k xs, x = .ref l ∧ y = .int k ∧ H l = some (.lst xs) ∧ -(2 ^ 63) ≤ k ∧ k < 2 ^ 63 ∧ xs.length * k.toNat ≤ sizeLine ∧ Mk H (.lst (List.replicate k.toNat xs).flatten) Q)
theorem op_uMul : OpR X (binaryOp .Mult) uMul := by
  intro pins s σ H x y v u Q I rx ry h
  rcases h with h | ⟨l, k, xs, e1, e2, h1, h2, h3, h4, q⟩
  · exact op_mul pins s σ H x y v u Q I rx ry h
  · exact op_rep pins s σ H x y v u Q I rx ry ⟨l, k, xs, e1, e2, h1, h2, h3, h4, fun p n => q.at p n⟩
/-- data that are compared -/
def uEq (K : PySem.W.Frag) (neg : Bool) : R2 := fun x y H Q =>
  (scal x y = true ∧ Q (.bl (if neg then !decide (x = y) else decide (x = y))) H) ∨
  (∃ d e, Dp K H x d ∧ Dp K H y e ∧ SeqAt.shaped d = true ∧ SeqAt.shaped e = true ∧ Q (.bl (if neg then !PyData.eqv d e else PyData.eqv d e)) H)
theorem op_uEq (hu : X.A.units + 64 < cLine) : OpR X (compareOp .Eq) (uEq X.K false) := by
  intro pins s σ H x y v u Q I rx ry h
  rcases h with h | h
  · exact op_eq pins s σ H x y v u Q I rx ry h
  · exact op_eqD hu pins s σ H x y v u Q I rx ry h
theorem op_uNe (hu : X.A.units + 64 < cLine) : OpR X (compareOp .NotEq) (uEq X.K true) := by
  intro pins s σ H x y v u Q I rx ry h
  rcases h with h | h
  · exact op_ne pins s σ H x y v u Q I rx ry h
  · exact op_neD hu pins s σ H x y v u Q I rx ry h
def uIn (K : PySem.W.Frag) (neg : Bool) : R2 := fun x y H Q =>
  (∃ p xs, y = .ref p ∧ (SqL K H p xs ∨ SqT K H p xs) ∧ flatV x = true ∧ xs.all flatV = true ∧ Q (.bl (if neg then !inV x xs else inV x xs)) H) ∨
  (∃ c z : Str, x = .str c ∧ y = .str z ∧ Q (.bl (if neg then !(!(Builtin.Str.occurrences z c 0 z.length 1).isEmpty) else !(Builtin.Str.occurrences z c 0 z.length 1).isEmpty)) H)
theorem op_uIn : OpR X (compareOp .In) (uIn X.K false) := by
  intro pins s σ H x y v u Q I rx ry h
  rcases h with h | ⟨i, j, e1, e2, q⟩
  · exact op_in_seq pins s σ H x y v u Q I rx ry h
  · exact op_in_str pins s σ H x y v u Q I rx ry ⟨i, j, e1, e2, q⟩
theorem op_uNotIn : OpR X (compareOp .NotIn) (uIn X.K true) := by
  intro pins s σ H x y v u Q I rx ry h
  rcases h with h | ⟨i, j, e1, e2, q⟩
  · exact op_notIn_seq pins s σ H x y v u Q I rx ry h
  · exact op_notIn_str pins s σ H x y v u Q I rx ry ⟨i, j, e1, e2, q⟩
end

/-! ### subscripts, slices -/
section
variable {X : Cx}
def uIx (K : PySem.W.Frag) : R2 := fun x y H Q =>
  (∃ p xs i v, x = .ref p ∧ y = .int i ∧ (SqL K H p xs ∨ SqT K H p xs) ∧ atI xs i = some v ∧ Q v H) ∨
  (∃ z i c, x = .str z ∧ y = .int i ∧ z.length ≤ sizeLine ∧ atI z.cps.toList i = some c ∧ Q (.str ⟨#[c]⟩) H)
theorem ix_u : IxR X (uIx X.K) := by
  intro ve se pins s σ H x y v u Q I rx ry h hs
  rcases h with ⟨p, xs, i, w, e1, e2, hq, ha, q⟩ | h
  · rcases hq with hq | hq
    · exact ix_list ve se pins s σ H x y v u Q I rx ry ⟨p, xs, i, w, e1, e2, hq, ha, q⟩ hs
    · exact ix_tup ve se pins s σ H x y v u Q I rx ry ⟨p, xs, i, w, e1, e2, hq, ha, q⟩ hs
  · exact ix_str ve se pins s σ H x y v u Q I rx ry h hs
def uSetL : V → V → V → Hp → (Hp → Prop) → Prop := fun o i v H Q => ∃ p xs k j, o = .ref p ∧ i = .int k ∧ H p = some (.lst xs) ∧ ixN xs.length k = some j ∧ Ch H p (.lst (xs.set j v)) Q
theorem set_u : PSet X uSetL := by
  intro pins s σ H o i v ov iv u Q I r1 r2 r3 h
  obtain ⟨p, xs, k, j, e1, e2, h1, h2, q⟩ := h
  exact set_list pins s σ H o i v ov iv u Q I r1 r2 r3 ⟨p, xs, k, j, e1, e2, h1, h2, q.at⟩
end
end Wg

/-! Wagon, part 3: displays, slices, calls of built-ins, repr of data. -/
namespace Wg
open PySem PySem.Spec PyProof.Rows L2

/-! ### displays -/
section
variable {X : Cx} {es : List Expr} {t : TA} {pos : Pos}
def tTupU (t : TA) : TE := fun σ H Q => t σ H fun xs H1 => xs.length ≤ sizeLine ∧ Mt H1 xs Q
def tLstU (t : TA) : TE := fun σ H Q => t σ H fun xs H1 => xs.length ≤ sizeLine ∧ Mk H1 (.lst xs) Q
theorem pe_tupU {k : Nat} (h : PA X es t) : PE X (.Tuple es k pos) (tTupU t) := by
  constructor
  intro pins s σ H Q I hq
  have run := h.run pos pins s σ H _ I hq
  refine wpAny_Tuple_spliced (thn run fun us s1 r => ?_)
  obtain ⟨xs, H1, I1, rv, z, q⟩ := r
  rw [← rv.length]
  exact ⟨z, mt_end (t' := s1.toks) I1 rv z q⟩
theorem pe_lstU (h : PA X es t) : PE X (.List es pos) (tLstU t) := by
  constructor
  intro pins s σ H Q I hq
  have run := h.run pos pins s σ H _ I hq
  refine wpAny_List_spliced (thn run fun us s1 r => ?_)
  obtain ⟨xs, H1, I1, rv, z, q⟩ := r
  rw [← rv.length]
  have n := I1.fresh
  have new : ObjOk X.prog X.w (upd H1 s1.heap.objs.size (.lst xs)) (s1.heap.push { cls := .type "list", data := .seq us.toArray }) s1.heap.objs.size (.lst xs) := ⟨z, us, 0, rv, Heap.get?_push_size _ rfl⟩
  exact ⟨z, .ref s1.heap.objs.size, _, I1.laid (t' := s1.toks) (fun b u e => Heap.get?_push_of_some _ e) (Nat.le_refl _) new, rfl, q.at _ n⟩
def tDNewU : TE := fun _ H Q => Mk H (.dK []) Q
theorem pe_dnewU : PE X (.Dict [] [] pos) tDNewU := ⟨fun pins s σ H Q I h => pe_dnewK.run pins s σ H Q I fun p n => h.at p n⟩
/-- {k: v} of two names -/
def tDic1 (i j : Nat) : TE := fun σ H Q => ∃ x : V, σ[i]? = some (some x) ∧ ∃ y : V, σ[j]? = some (some y) ∧ ∃ k : Key, x = kV k ∧ Mk H (.dK [(k, y)]) Q
theorem pe_dic1 {k v : Expr} {i j : Nat} (hk : PE X k (tVar i)) (hv : PE X v (tVar j)) : PE X (.Dict [some k] [v] pos) (tDic1 i j) := by
  constructor
  intro pins s σ H Q I h
  obtain ⟨x, e1, y, e2, kk, rfl, q⟩ := h
  refine (pe_disp (pps_cons hk hv pps_nil) rfl rfl (by simp) (by simp)).run pins s σ H Q I fun p n => ?_
  refine ⟨_, e1, _, e2, upd_same, [(kk, y)], rfl, by simp, ?_⟩
  rw [upd_upd]
  exact q.at p n
end

/-! ### slices -/
section
variable {prog : Program} {w : World} {A : Around} {E : Value → Shared → Prop} {s : Shared}
/-- t[..] of all of t is t -/
theorem cut_whole {t sl : Addr} {items : Array Value} {vl vu : Value} {lo hi : Option Int} {Q : Value → Shared → Prop} (ht : IsTup s.heap t items) (hs : s.heap.IsSliceOf sl vl vu .none) (pl : IsPart vl lo) (pu : IsPart vu hi)
    (h0 : HT.sIx items.size 0 lo = 0) (h1 : HT.sIx items.size items.size hi = items.size) (h : Q (.ref t) s) : wpAny (model prog w) A (getItem (.ref t) (.ref sl)) Q E s := by
  obtain ⟨os, hos, hcs, hds⟩ := id hs
  have tysl : s.TypeIs (.ref sl) "slice" := ⟨os, hos, hcs⟩
  unfold getItem
  try with_reducible refine wpAny_holding ?_
  first | refine wpAny_bind (wpAny_pure ?_) | skip
  refine wpAny_bind (wpAny_sequenceKey ht.typeIs (by decide) ?_)
  refine wpAny_bind (wpAny_callSpecial?_slot (name := Str.ofString "__getitem__") ht.typeIs PyProof.Rows.slot_tuple_getitem
    (wpAny_call_entry PyProof.Rows.slot_tuple_getitem ht.typeIs entry_tuple_getitem ?_ (args_tuple_getitem _ _)))
  show wpAny _ _ (Builtin.Tuple.tupleItemsOf (.ref t) >>= _) _ _ s
  refine wpAny_bind (tupleItemsOf_ ht (wpAny_bind (wpAny_typeOf tysl ?_)))
  rw [if_pos (by decide)]
  refine wpAny_bind (HT.sliceApplied_gen hs pl pu ?_)
  rw [h0, h1]
  show wpAny _ _ (if ((((0 : Nat) : Int) == 0 && (1 : Int) == 1 && (items.size - 0) == items.size) = true) then _ else _) _ _ s
  rw [if_pos (by simp)]
  refine wpAny_bind (m := Builtin.Tuple.tupleIsExact _) ?_
  unfold Builtin.Tuple.tupleIsExact
  refine wpAny_bind (wpAny_typeOf ht.typeIs (wpAny_pure ?_))
  rw [if_pos (by decide)]
  exact wpAny_bind (wpAny_rule (wpAny_pure ⟨_, rfl, wpAny_pure h⟩))
end
section
variable {X : Cx}
def uSl (K : PySem.W.Frag) : V → Option Int → Option Int → Hp → VK → Prop := fun x lo hi H Q =>
  (∃ a xs, x = .ref a ∧ SqL K H a xs ∧ Mk H (.lst (cutV xs lo hi)) Q) ∨
  (∃ z, x = .str z ∧ z.length ≤ sizeLine ∧ Q (.str (cutS z lo hi)) H) ∨
  (∃ a xs, x = .ref a ∧ Tup H a xs ∧ ((HT.sIx xs.length 0 lo = 0 ∧ HT.sIx xs.length xs.length hi = xs.length) → Q (.ref a) H) ∧
    (¬ (HT.sIx xs.length 0 lo = 0 ∧ HT.sIx xs.length xs.length hi = xs.length) → Mt H (cutV xs lo hi) Q))
theorem sl_u : SlR X (uSl X.K) := by
  intro pins s σ H x v vl vu lo hi sl Q I rx hs pl pu h
  rcases h with ⟨a, xs, e, hx, q⟩ | h | ⟨a, xs, rfl, hx, q1, q2⟩
  · exact sl_list pins s σ H x v vl vu lo hi sl Q I rx hs pl pu ⟨a, xs, e, hx, fun p n => q.at p n⟩
  · exact sl_str pins s σ H x v vl vu lo hi sl Q I rx hs pl pu h
  · cases rx
    obtain ⟨its, r, ht, hz⟩ := I.tuple hx.sq
    have hlen : its.toArray.size = xs.length := by
      rw [List.size_toArray]
      exact r.length.symm
    refine ⟨"tuple", _, PyProof.Rows.slot_tuple_getitem.lookup, ht.typeIs, ?_⟩
    by_cases c : HT.sIx xs.length 0 lo = 0 ∧ HT.sIx xs.length xs.length hi = xs.length
    · exact cut_whole ht hs pl pu (by rw [hlen]; exact c.1) (by rw [hlen]; exact c.2) ⟨.ref a, H, I, rfl, q1 c⟩
    · refine HT.getItem_tuple_cut ht hs pl pu (by rw [hlen]; exact c) ?_ (by rw [hlen]; exact hz)
      rw [hlen]
      refine mt_end (t' := s.toks) I ((r.drop (HT.sIx xs.length 0 lo)).take (HT.sIx xs.length xs.length hi - HT.sIx xs.length 0 lo)) (Nat.le_trans (cutV_length xs lo hi) hz) (q2 c)
end

/-! ### calls -/
section
variable {X : Cx}
def uList (K : PySem.W.Frag) : List V → Hp → VK → Prop := fun xs H Q => ∃ p ys, xs = [.ref p] ∧ (SqL K H p ys ∨ SqT K H p ys) ∧ Mk H (.lst ys) Q
theorem call_uList : CallR X (.type "list") (uList X.K) := by
  intro pins s σ H xs us Q I r h
  obtain ⟨p, ys, e, hq, q⟩ := h
  exact call_list_of pins s σ H xs us Q I r ⟨p, ys, e, hq, fun l n => q.at l n⟩
def uTuple (K : PySem.W.Frag) : List V → Hp → VK → Prop := fun xs H Q => ∃ p ys, xs = [.ref p] ∧ ((SqL K H p ys ∧ Mt H ys Q) ∨ (SqT K H p ys ∧ Q (.ref p) H))
theorem call_uTuple : CallR X (.type "tuple") (uTuple X.K) := by
  intro pins s σ H xs us Q I r h
  obtain ⟨p, ys, rfl, h⟩ := h
  obtain ⟨u, rfl, rx⟩ := vals1 r
  cases rx
  rcases h with ⟨hq, q⟩ | ⟨hq, q⟩
  · obtain ⟨its, r', pl, hz⟩ := I.list hq
    have hlen := r'.length
    refine call_tuple_list pl.isList (fun h' kp => ?_) (by simp only [List.size_toArray] <;> omega)
    exact mt_end (t' := s.toks) (I.kept (t' := s.toks) kp) r' hz q
  · obtain ⟨its, r', pl, hz⟩ := I.tuple hq
    exact call_tuple_same pl ⟨.ref p, H, I, rfl, q⟩
/-- what repr tells of data -/
def uRepr (K : PySem.W.Frag) : List V → Hp → VK → Prop := fun xs H Q => ∃ v d, xs = [v] ∧ Dp K H v d ∧ d.showable = true ∧ d.depth ≤ 100 ∧ d.shown.length ≤ sizeLine ∧ Q (.str d.shown) H
theorem dp_noDict {K : PySem.W.Frag} {H : Hp} : ∀ {v : V} {d : PyData}, Dp K H v d → d.hasDict = false := by
  intro v d h
  refine Dp.rec (motive_1 := fun v d _ => d.hasDict = false) (motive_2 := fun vs ds _ => PyData.hasDictAll ds = false) ?_ ?_ ?_ ?_ ?_ ?_ ?_ ?_ h
  all_goals intros
  all_goals (try simp only [PyData.hasDict, PyData.hasDictAll, Bool.or_eq_false_iff])
  all_goals (try assumption)
  all_goals (try (constructor <;> assumption))
theorem call_uRepr (hr : Rm 1 X.A) : CallR X (.builtin "repr") (uRepr X.K) := by
  intro pins s σ H xs us Q I r h
  obtain ⟨v, d, rfl, hd, hs, hdep, hz, q⟩ := h
  obtain ⟨u, rfl, rx⟩ := vals1 r
  have hu : X.A.units + (d.depth + 1) < cLine := by
    have := hr.rm.un
    omega
  have hno := dp_noDict hd
  cases hd with
  | non => cases rx; exact PySem.P.repr_of_none ⟨.str _, H, I.tok _, ⟨_, rfl⟩, q⟩
  | bl b => cases rx; exact PySem.P.repr_of_bool ⟨.str _, H, I.tok _, ⟨_, rfl⟩, q⟩
  | int i =>
    obtain ⟨t, rfl⟩ := rx
    exact PySem.P.repr_of_int (of_decide_eq_true hs) ⟨.str _, H, I.tok _, ⟨_, rfl⟩, q⟩
  | str x =>
    obtain ⟨t, rfl⟩ := rx
    exact PySem.P.repr_of_str ⟨.str _, H, I.tok _, ⟨_, rfl⟩, q⟩ hz
  | lst hl ha =>
    cases rx
    obtain ⟨as, rd⟩ := Dp.reads I _ _ _ (.lst hl ha) rfl
    refine repr_of_reads' rd hs (fun z => absurd z (by rw [hno]; exact Bool.false_ne_true)) hr.gd hu (fun _ _ e => e) (fun h' u tk hk => ?_) hz
    exact ⟨.str _, H, I.kept (t' := tk) hk, ⟨_, rfl⟩, q⟩
  | tup hl ha =>
    cases rx
    obtain ⟨as, rd⟩ := Dp.reads I _ _ _ (.tup hl ha) rfl
    refine repr_of_reads' rd hs (fun z => absurd z (by rw [hno]; exact Bool.false_ne_true)) hr.gd hu (fun _ _ e => e) (fun h' u tk hk => ?_) hz
    exact ⟨.str _, H, I.kept (t' := tk) hk, ⟨_, rfl⟩, q⟩
end
end Wg

/-! Wagon, part 4: what is walked; words for defs and their bodies. -/
namespace Wg
open PySem PySem.Spec PyProof.Rows L2

section
variable {X : Cx}
/-- an expression's truth -/
def tTru (K : PySem.W.Frag) (ta : TE) : TT := fun σ H Q => ta σ H fun x H' => ∃ k, TruV K x H' k ∧ Q k H'
theorem pt_tru {a : Expr} {ta : TE} (ha : PE X a ta) (he : ∀ whole, isTrue a X.env whole = (do let v ← whole; standAt a.pos; holding [v] (truthy v)) := by intro _; rfl) : PT X a (tTru X.K ta) := pt_truth ha he
/-- a list, a tuple or a text that is walked -/
def iU (K : PySem.W.Frag) (tl : TE) : TI := fun σ H R => tl σ H fun x H1 =>
  (∃ a xs, x = .ref a ∧ SqL K H1 a xs ∧ R (Itl K a) H1) ∨ (∃ a xs, x = .ref a ∧ SqT K H1 a xs ∧ R (Itt K a) H1) ∨ (∃ z, x = .str z ∧ R (Its z) H1)
theorem pi_u {tg l : Expr} {tl : TE} (hl : PE X l tl) : PI X tg l (iU X.K tl) := by
  constructor
  intro pins s σ H R I h
  have run := hl.run pins s σ H _ I h
  refine thn run fun v s1 e => ?_
  obtain ⟨x, H1, I1, r1, q1⟩ := e
  have new : ∀ {o : Obj} {b : Addr}, b ∈ [s1.heap.objs.size] → FpOk X pins H1 b := fun {o b} hb => by
    rw [List.mem_singleton.mp hb]
    exact I1.fpOk (Nat.le_refl _) I1.fresh
  rcases q1 with ⟨a, xs, rfl, hq, q⟩ | ⟨a, xs, rfl, hq, q⟩ | ⟨z, rfl, q⟩
  · cases r1
    obtain ⟨its, rv, p, hz⟩ := I1.list hq
    refine wpAny_pyIter_list p.isList ⟨_, [s1.heap.objs.size], _, _, H1, rfl, I1.kept (t' := s1.toks) fun b o e => Heap.get?_push_of_some _ e, turn_list a _, ?_, fun b hb => ?_, q⟩
    · exact ⟨_, Heap.get?_push_size _ rfl, rfl, rfl⟩
    · exact new (o := default) hb
  · cases r1
    obtain ⟨its, rv, p, hz⟩ := I1.tuple hq
    refine wpAny_pyIter_tuple (show s1.heap.IsTuple a its.toArray from p) ⟨_, [s1.heap.objs.size], _, _, H1, rfl, I1.kept (t' := s1.toks) fun b o e => Heap.get?_push_of_some _ e, turn_tuple a _, ?_, fun b hb => ?_, q⟩
    · exact ⟨_, Heap.get?_push_size _ rfl, rfl, rfl⟩
    · exact new (o := default) hb
  · obtain ⟨t, rfl⟩ := r1
    match ha : z.cps.all (· < 128) with
    | false => exact wpAny_pyIter_wide ha (pi_one (tk := s1.toks) I1 _ (turn_str _ z t "str_iterator" (.inr rfl)) ⟨_, Heap.get?_push_size _ rfl, rfl, rfl⟩ q)
    | true => exact wpAny_pyIter_ascii ha (pi_one (tk := s1.toks) I1 _ (turn_str _ z t "str_ascii_iterator" (.inl rfl)) ⟨_, Heap.get?_push_size _ rfl, rfl, rfl⟩ q)
end

/-- a body as a promise: the values in the slots at the beginning -/
def run (t : TS) (σ : L2.St) (H : Hp) (Q : VK) : Prop := t { nx := fun _ H' => Q .non H', rt := Q } σ H
end Wg

namespace Wg
open PySem PySem.Spec PyProof.Rows L2
/-- a def of the text where it stands -/
structure Fn (K : PySem.W.Frag) (mg : Str → Option Value) (x : Str) (st : Stmt) (f : Addr) (fd : FuncData) (ps : List Str) : Prop where
  fn : Fun K x x st f fd
  g : mg x = some (.ref f)
  b : Binds K fd ps []

/-! ### data that stand still -/
mutual
inductive Dt (K : PySem.W.Frag) (H : Hp) : V → PyData → Prop
  | non : Dt K H .non .none
  | bl (b : Bool) : Dt K H (.bl b) (.bool b)
  | int (i : Int) : Dt K H (.int i) (.int i)
  | str (x : Str) : Dt K H (.str x) (.str x)
  | tup {a : Addr} {xs : List V} {ds : List PyData} : Tup H a xs → DtAll K H xs ds → Dt K H (.ref a) (.tuple ds)
inductive DtAll (K : PySem.W.Frag) (H : Hp) : List V → List PyData → Prop
  | nil : DtAll K H [] []
  | cons {v : V} {vs : List V} {d : PyData} {ds : List PyData} : Dt K H v d → DtAll K H vs ds → DtAll K H (v :: vs) (d :: ds)
end
mutual
theorem Dt.dp {K : PySem.W.Frag} {H : Hp} : ∀ {v : V} {d : PyData}, Dt K H v d → Dp K H v d
  | _, _, .non => .non
  | _, _, .bl b => .bl b
  | _, _, .int i => .int i
  | _, _, .str x => .str x
  | _, _, .tup t a => .tup t.sq a.dp
theorem DtAll.dp {K : PySem.W.Frag} {H : Hp} : ∀ {vs : List V} {ds : List PyData}, DtAll K H vs ds → DpAll K H vs ds
  | _, _, .nil => .nil
  | _, _, .cons h r => .cons h.dp r.dp
end
mutual
theorem Dt.reads {X : Cx} {pins : List (Addr × Obj)} {σ : L2.St} {H : Hp} {s : Shared} {K : PySem.W.Frag} (I : Inv X pins σ H s) : ∀ {v : V} {d : PyData}, Dt K H v d → ∀ {u : Value}, RelV v u → Reads s.heap u d []
  | _, _, .non, u, r => by cases r; exact .none
  | _, _, .bl b, u, r => by cases r; exact .bool b
  | _, _, .int i, u, r => by obtain ⟨t, rfl⟩ := r; exact .int i t
  | _, _, .str x, u, r => by obtain ⟨t, rfl⟩ := r; exact .str x t
  | _, _, .tup (a := a) t q, u, r => by
    cases r
    obtain ⟨its, n, rv, z, ho⟩ := t.obj I
    exact .tuple ho rfl rfl (DtAll.reads I q rv)
theorem DtAll.reads {X : Cx} {pins : List (Addr × Obj)} {σ : L2.St} {H : Hp} {s : Shared} {K : PySem.W.Frag} (I : Inv X pins σ H s) : ∀ {vs : List V} {ds : List PyData}, DtAll K H vs ds → ∀ {us : List Value}, Vals vs us → ReadsAll s.heap us ds []
  | _, _, .nil, _, r => by cases r; exact .nil
  | _, _, .cons h q, _, r => by
    cases r with
    | cons r1 r2 => exact .cons (Dt.reads I h r1) (DtAll.reads I q r2)
end
mutual
/-- a change of what is no tuple leaves them -/
theorem Dt.keep {K : PySem.W.Frag} {S : List Addr} {H H' : Hp} (k : Keep S H H') (n : ∀ a xs, Tup H a xs → a ∉ S) : ∀ {v : V} {d : PyData}, Dt K H v d → Dt K H' v d
  | _, _, .non => .non
  | _, _, .bl b => .bl b
  | _, _, .int i => .int i
  | _, _, .str x => .str x
  | _, _, .tup t a => .tup (t.keep k (n _ _ t)) (DtAll.keep k n a)
theorem DtAll.keep {K : PySem.W.Frag} {S : List Addr} {H H' : Hp} (k : Keep S H H') (n : ∀ a xs, Tup H a xs → a ∉ S) : ∀ {vs : List V} {ds : List PyData}, DtAll K H vs ds → DtAll K H' vs ds
  | _, _, .nil => .nil
  | _, _, .cons h r => .cons (Dt.keep k n h) (DtAll.keep k n r)
end
def keyD : Key → PyData
  | .inl i => .int i
  | .inr x => .str x
theorem pairs_reads {X : Cx} {pins : List (Addr × Obj)} {σ : L2.St} {H : Hp} {s : Shared} {K : PySem.W.Frag} (I : Inv X pins σ H s) : ∀ {es : List DictEntry} {kvs : List (Key × V)} {us : List (Key × Value)} {ds : List PyData},
    PySem.Pairs (mixKind X.prog X.w) es us → KV kvs us → DtAll K H (kvs.map (·.2)) ds →
      ReadsAll s.heap (es.map (·.key)) (kvs.map fun p => keyD p.1) [] ∧ ReadsAll s.heap (es.map (·.val)) ds []
  | _, _, _, _, .nil, .nil, .nil => ⟨.nil, .nil⟩
  | e :: es, (k, v) :: kvs, (k', u) :: us, d :: ds, .cons h1 h2 hr, .cons ⟨q1, q2⟩ qr, .cons hd hds => by
    obtain ⟨r1, r2⟩ := pairs_reads I hr qr hds
    have q1' : k = k' := q1
    have q2' : RelV v u := q2
    have hv : e.val = u := h2
    have hk : keyIs k' e.key = true := h1
    subst q1'
    have rv : Reads s.heap e.val d [] := by
      rw [hv]
      exact hd.reads I q2'
    refine ⟨.cons (as := []) (bs := []) ?_ r1, .cons (as := []) (bs := []) rv r2⟩
    show Reads s.heap e.key (keyD k) []
    rcases keyIs_shape hk with ⟨i, t, rfl, e2⟩ | ⟨x, t, rfl, e2⟩
    · rw [e2]; exact .int i t
    · rw [e2]; exact .str x t

section
variable {X : Cx}
/-- what repr tells of a dict of such data -/
def uReprD (K : PySem.W.Frag) : List V → Hp → VK → Prop := fun xs H Q => ∃ (a : Addr) (kvs : List (Key × V)) (ds : List PyData), xs = [.ref a] ∧ H a = some (.dK kvs) ∧ DtAll K H (kvs.map (·.2)) ds ∧
  (PyData.dict ((kvs.map fun p => keyD p.1).zip ds)).showable = true ∧ (PyData.dict ((kvs.map fun p => keyD p.1).zip ds)).depth ≤ 100 ∧ (PyData.dict ((kvs.map fun p => keyD p.1).zip ds)).shown.length ≤ sizeLine ∧
  Q (.str (PyData.dict ((kvs.map fun p => keyD p.1).zip ds)).shown) H
theorem DtAll.len {K : PySem.W.Frag} {H : Hp} : ∀ {vs : List V} {ds : List PyData}, DtAll K H vs ds → vs.length = ds.length
  | _, _, .nil => rfl
  | _, _, .cons _ r => congrArg (· + 1) r.len
theorem call_uReprD (hr : Rm 1 X.A) : CallR X (.builtin "repr") (uReprD X.K) := by
  intro pins s σ H xs us Q I r h
  obtain ⟨a, kvs, ds, rfl, ha, hd, hs, hdep, hz, q⟩ := h
  obtain ⟨u, rfl, rx⟩ := vals1 r
  cases rx
  obtain ⟨z, hsy, ws, kv, o, es, ep, ho, ex, hdat, _, hp, _⟩ := I.hok a _ ha
  obtain ⟨r1, r2⟩ := pairs_reads I hp kv hd
  have hl := hd.len
  rw [List.length_map] at hl
  have e1 : ((kvs.map fun p => keyD p.1).zip ds).map (·.1) = kvs.map fun p => keyD p.1 := List.map_fst_zip (by rw [List.length_map]; omega)
  have e2 : ((kvs.map fun p => keyD p.1).zip ds).map (·.2) = ds := List.map_snd_zip (by rw [List.length_map]; omega)
  have rd : Reads s.heap (.ref a) (PyData.dict ((kvs.map fun p => keyD p.1).zip ds)) (a :: [] ++ []) := .dict ho ex.1 hdat (by rw [e1]; exact r1) (by rw [e2]; exact r2)
  have hu : X.A.units + ((PyData.dict ((kvs.map fun p => keyD p.1).zip ds)).depth + 1) < cLine := by
    have := hr.rm.un
    omega
  refine repr_of_reads' rd hs (fun _ hm => ?_) hr.gd hu (fun _ _ e => e) (fun h' u tk hk => ?_) hz
  · have e : sysModules = a := by simpa using hm
    rw [e] at hsy
    simp at hsy
  · exact ⟨.str _, H, I.kept (t' := tk) hk, ⟨_, rfl⟩, q⟩
def uRep (K : PySem.W.Frag) : List V → Hp → VK → Prop := fun xs H Q => uRepr K xs H Q ∨ uReprD K xs H Q
theorem call_uRep (hr : Rm 1 X.A) : CallR X (.builtin "repr") (uRep X.K) := (call_uRepr hr).or (call_uReprD hr)

def uLen (K : PySem.W.Frag) : List V → Hp → VK → Prop := fun xs H Q => ∃ x n, xs = [x] ∧ LenV K x H n ∧ Q (.int n) H
theorem call_uLen : CallR X (.builtin "len") (uLen X.K) := call_len
def uAbs : List V → Hp → VK → Prop := fun xs H Q => ∃ i, xs = [.int i] ∧ Q (.int (if i < 0 then -i else i)) H
theorem call_uAbs : CallR X (.builtin "abs") uAbs := call_abs
def uMax2 : List V → Hp → VK → Prop := fun xs H Q => ∃ i j, xs = [.int i, .int j] ∧ Q (.int (if j > i then j else i)) H
theorem call_uMax2 (hc : X.calm = true) : CallR X (.builtin "max") uMax2 := call_max2 hc
def uMin2 : List V → Hp → VK → Prop := fun xs H Q => ∃ i j, xs = [.int i, .int j] ∧ Q (.int (if j < i then j else i)) H
theorem call_uMin2 (hc : X.calm = true) : CallR X (.builtin "min") uMin2 := call_min2 hc
def uStr : List V → Hp → VK → Prop := fun xs H Q => ∃ i, xs = [.int i] ∧ i.natAbs.log2 < 1920 ∧ Q (.str (toString i)) H
theorem call_uStr : CallR X (.type "str") uStr := call_str_int
def uInt : List V → Hp → VK → Prop := fun xs H Q => (∃ i, xs = [.int i] ∧ Q (.int i) H) ∨ ∃ k, xs = [.bl k] ∧ Q (.int (if k then 1 else 0)) H
theorem call_uInt : CallR X (.type "int") uInt := call_int1
def rIsN : R2 := fun x y H Q => y = .non ∧ Q (.bl (decide (x = .non))) H
def rNotN : R2 := fun x y H Q => y = .non ∧ Q (.bl (!decide (x = .non))) H

/-! ### methods -/
def uAppend : V → List V → Hp → VK → Prop := fun x vs H Q => ∃ l xs y, x = .ref l ∧ vs = [y] ∧ H l = some (.lst xs) ∧ xs.length < sizeLine ∧ Ch H l (.lst (xs ++ [y])) (Q .non)
theorem mt_uAppend : MtM X "list.append" uAppend := by
  intro pins s σ H x vs v us Q I rx rv h
  obtain ⟨l, xs, y, e1, e2, h1, h2, q⟩ := h
  exact mt_append pins s σ H x vs v us Q I rx rv ⟨l, xs, y, e1, e2, h1, h2, q.at⟩
end
end Wg

/-! Wagon, part 5: how a reading goes on, construct by construct. -/
namespace Wg
open PySem PySem.Spec PyProof.Rows L2

section
variable {K : PySem.W.Frag} {H : Hp} {Q : VK} {i j : Int}
theorem e_rI {C : Int → Int → Prop} {g : Int → Int → V} : rI C g (.int i) (.int j) H Q ↔ C i j ∧ Q (g i j) H := by
  constructor
  · rintro ⟨a, b, e1, e2, c, q⟩
    cases e1; cases e2; exact ⟨c, q⟩
  · rintro ⟨c, q⟩; exact ⟨i, j, rfl, rfl, c, q⟩
theorem e_rI0 {g : Int → Int → V} : rI0 g (.int i) (.int j) H Q ↔ Q (g i j) H := by
  constructor
  · rintro ⟨a, b, e1, e2, q⟩
    cases e1; cases e2; exact q
  · intro q; exact ⟨i, j, rfl, rfl, q⟩
theorem e_rU {g : Int → V} : rU g (.int i) H Q ↔ Q (g i) H := by
  constructor
  · rintro ⟨a, e1, q⟩
    cases e1; exact q
  · intro q; exact ⟨i, rfl, q⟩
theorem e_addI : uAdd K (.int i) (.int j) H Q ↔ Q (.int (i + j)) H := by
  constructor
  · rintro (⟨a, b, e1, e2, q⟩ | ⟨a, b, e1, _⟩ | ⟨a, b, _, _, e1, _⟩ | ⟨a, b, _, _, e1, _⟩) <;> first | cases e1; cases e2; exact q | cases e1
  · intro q; exact .inl ⟨i, j, rfl, rfl, q⟩
theorem e_addS {x y : Str} : uAdd K (.str x) (.str y) H Q ↔ x.length + y.length ≤ sizeLine ∧ Q (.str (x ++ y)) H := by
  constructor
  · rintro (⟨a, b, e1, _⟩ | ⟨a, b, e1, e2, z, q⟩ | ⟨a, b, _, _, e1, _⟩ | ⟨a, b, _, _, e1, _⟩) <;> first | cases e1; cases e2; exact ⟨z, q⟩ | cases e1
  · rintro ⟨z, q⟩; exact .inr (.inl ⟨x, y, rfl, rfl, z, q⟩)
theorem e_mulI : uMul (.int i) (.int j) H Q ↔ CMul i j ∧ Q (.int (i * j)) H := by
  constructor
  · rintro (⟨a, b, e1, e2, c, q⟩ | ⟨a, b, _, e1, _⟩) <;> first | cases e1; cases e2; exact ⟨c, q⟩ | cases e1
  · rintro ⟨c, q⟩; exact .inl ⟨i, j, rfl, rfl, c, q⟩
theorem e_abs : uAbs [.int i] H Q ↔ Q (.int (if i < 0 then -i else i)) H := by
  constructor
  · rintro ⟨a, e1, q⟩
    cases e1; exact q
  · intro q; exact ⟨i, rfl, q⟩
theorem e_max2 : uMax2 [.int i, .int j] H Q ↔ Q (.int (if j > i then j else i)) H := by
  constructor
  · rintro ⟨a, b, e1, q⟩
    cases e1; exact q
  · intro q; exact ⟨i, j, rfl, q⟩
theorem e_min2 : uMin2 [.int i, .int j] H Q ↔ Q (.int (if j < i then j else i)) H := by
  constructor
  · rintro ⟨a, b, e1, q⟩
    cases e1; exact q
  · intro q; exact ⟨i, j, rfl, q⟩
theorem e_str : uStr [.int i] H Q ↔ i.natAbs.log2 < 1920 ∧ Q (.str (toString i)) H := by
  constructor
  · rintro ⟨a, e1, z, q⟩
    cases e1; exact ⟨z, q⟩
  · rintro ⟨z, q⟩; exact ⟨i, rfl, z, q⟩
theorem e_intI : uInt [.int i] H Q ↔ Q (.int i) H := by
  constructor
  · rintro (⟨a, e1, q⟩ | ⟨a, e1, q⟩) <;> cases e1; exact q
  · intro q; exact .inl ⟨i, rfl, q⟩
theorem e_intB {k : Bool} : uInt [.bl k] H Q ↔ Q (.int (if k then 1 else 0)) H := by
  constructor
  · rintro (⟨a, e1, q⟩ | ⟨a, e1, q⟩) <;> cases e1; exact q
  · intro q; exact .inr ⟨k, rfl, q⟩
theorem e_isN {x : V} : rIsN x .non H Q ↔ Q (.bl (decide (x = .non))) H := ⟨fun h => h.2, fun q => ⟨rfl, q⟩⟩
theorem e_notN {x : V} : rNotN x .non H Q ↔ Q (.bl (!decide (x = .non))) H := ⟨fun h => h.2, fun q => ⟨rfl, q⟩⟩
theorem e_truB {k k' : Bool} : TruV K (.bl k) H k' ↔ k' = k := Iff.rfl
theorem e_truI {k' : Bool} : TruV K (.int i) H k' ↔ k' = (i != 0) := Iff.rfl
/-- equality of scalars -/
theorem g_eq {x y : V} (h : scal x y = true) (q : Q (.bl (decide (x = y))) H) : uEq K false x y H Q := .inl ⟨h, by simpa using q⟩
theorem g_ne {x y : V} (h : scal x y = true) (q : Q (.bl (!decide (x = y))) H) : uEq K true x y H Q := .inl ⟨h, by simpa using q⟩
/-- an item of a list, of a tuple -/
theorem g_ixL {p : Addr} {xs : List V} {v : V} (h : H p = some (.lst xs)) (e : atI xs i = some v) (q : Q v H) : uIx K (.ref p) (.int i) H Q := .inl ⟨p, xs, i, v, rfl, rfl, .inl (lst_sq h), e, q⟩
theorem g_ixT {p : Addr} {xs : List V} {v : V} (h : Tup H p xs) (e : atI xs i = some v) (q : Q v H) : uIx K (.ref p) (.int i) H Q := .inl ⟨p, xs, i, v, rfl, rfl, .inr h.sq, e, q⟩
theorem g_ixQ {p : Addr} {xs : List V} {v : V} (h : SqL K H p xs) (e : atI xs i = some v) (q : Q v H) : uIx K (.ref p) (.int i) H Q := .inl ⟨p, xs, i, v, rfl, rfl, .inl h, e, q⟩
theorem g_ixS {z : Str} {c : Nat} (h : z.length ≤ sizeLine) (e : atI z.cps.toList i = some c) (q : Q (.str ⟨#[c]⟩) H) : uIx K (.str z) (.int i) H Q := .inr ⟨z, i, c, rfl, rfl, h, e, q⟩
/-- an item stored -/
theorem g_setL {p : Addr} {xs : List V} {v : V} {k : Nat} {R : Hp → Prop} (h : H p = some (.lst xs)) (e : ixN xs.length i = some k) (q : ∀ H', Keep [p] H H' → H' p = some (.lst (xs.set k v)) → R H') : uSetL (.ref p) (.int i) v H R :=
  ⟨p, xs, i, k, rfl, rfl, h, e, q⟩
theorem g_addL {a b : Addr} {xs ys : List V} (h1 : H a = some (.lst xs)) (h2 : H b = some (.lst ys)) (z : xs.length + ys.length ≤ sizeLine) (q : ∀ p H', H p = none → Keep [] H H' → H' p = some (.lst (xs ++ ys)) → Q (.ref p) H') : uAdd K (.ref a) (.ref b) H Q :=
  .inr (.inr (.inl ⟨a, b, xs, ys, rfl, rfl, h1, h2, z, q⟩))
theorem g_addT {a b : Addr} {xs ys : List V} (h1 : Tup H a xs) (h2 : Tup H b ys) (z : xs.length + ys.length ≤ sizeLine) (q : ∀ p H', Keep [] H H' → Tup H' p (xs ++ ys) → Q (.ref p) H') : uAdd K (.ref a) (.ref b) H Q := by
  refine .inr (.inr (.inr ⟨a, b, xs, ys, rfl, rfl, h1, h2, z, fun e => ?_, fun _ e => ?_, fun _ _ p H' _ k t => q p H' k t⟩))
  · subst e
    exact q b H (Keep.refl _ _) h2
  · subst e
    exact q a H (Keep.refl _ _) (by rw [List.append_nil]; exact h1)
theorem g_lenL {p : Addr} {xs : List V} (h : H p = some (.lst xs)) (q : Q (.int xs.length) H) : uLen K [.ref p] H Q := ⟨.ref p, xs.length, rfl, .inl ⟨xs, lst_sq h, rfl⟩, q⟩
theorem g_lenT {p : Addr} {xs : List V} (h : Tup H p xs) (q : Q (.int xs.length) H) : uLen K [.ref p] H Q := ⟨.ref p, xs.length, rfl, .inr ⟨xs, h.sq, rfl⟩, q⟩
theorem g_lenQ {p : Addr} {xs : List V} (h : SqL K H p xs) (q : Q (.int xs.length) H) : uLen K [.ref p] H Q := ⟨.ref p, xs.length, rfl, .inl ⟨xs, h, rfl⟩, q⟩
theorem g_lenS {z : Str} (h : z.length ≤ sizeLine) (q : Q (.int z.length) H) : uLen K [.str z] H Q := ⟨.str z, z.length, rfl, ⟨h, rfl⟩, q⟩
theorem g_repr {v : V} {d : PyData} (h : Dp K H v d) (h1 : d.showable = true) (h2 : d.depth ≤ 100) (h3 : d.shown.length ≤ sizeLine) (q : Q (.str d.shown) H) : uRep K [v] H Q := .inl ⟨v, d, rfl, h, h1, h2, h3, q⟩
theorem g_append {l : Addr} {xs : List V} {y : V} (h : H l = some (.lst xs)) (z : xs.length < sizeLine) (q : ∀ H', Keep [l] H H' → H' l = some (.lst (xs ++ [y])) → Q .non H') : uAppend (.ref l) [y] H Q := ⟨l, xs, y, rfl, rfl, h, z, q⟩
theorem g_listL {p : Addr} {ys : List V} (h : H p = some (.lst ys)) (q : ∀ l H', H l = none → Keep [] H H' → H' l = some (.lst ys) → Q (.ref l) H') : uList K [.ref p] H Q := ⟨p, ys, rfl, .inl (lst_sq h), q⟩
theorem g_listT {p : Addr} {ys : List V} (h : Tup H p ys) (q : ∀ l H', H l = none → Keep [] H H' → H' l = some (.lst ys) → Q (.ref l) H') : uList K [.ref p] H Q := ⟨p, ys, rfl, .inr h.sq, q⟩
theorem g_tupleL {p : Addr} {ys : List V} (h : H p = some (.lst ys)) (q : ∀ l H', H l = none → Keep [] H H' → Tup H' l ys → Q (.ref l) H') : uTuple K [.ref p] H Q := ⟨p, ys, rfl, .inl ⟨lst_sq h, q⟩⟩
theorem g_slL {p : Addr} {xs : List V} {lo hi : Option Int} (h : SqL K H p xs) (q : ∀ l H', H l = none → Keep [] H H' → H' l = some (.lst (cutV xs lo hi)) → Q (.ref l) H') : uSl K (.ref p) lo hi H Q := .inl ⟨p, xs, rfl, h, q⟩
theorem g_slS {z : Str} {lo hi : Option Int} (h : z.length ≤ sizeLine) (q : Q (.str (cutS z lo hi)) H) : uSl K (.str z) lo hi H Q := .inr (.inl ⟨z, rfl, h, q⟩)
theorem cut_all {xs : List V} {lo hi : Option Int} (h : HT.sIx xs.length 0 lo = 0 ∧ HT.sIx xs.length xs.length hi = xs.length) : cutV xs lo hi = xs := by
  unfold cutV
  rw [h.1, h.2]
  exact List.take_length
theorem g_slT {p : Addr} {xs : List V} {lo hi : Option Int} (h : Tup H p xs) (q : ∀ l H', Keep [] H H' → Tup H' l (cutV xs lo hi) → Q (.ref l) H') : uSl K (.ref p) lo hi H Q := by
  refine .inr (.inr ⟨p, xs, rfl, h, fun e => ?_, fun _ l H' _ k t => q l H' k t⟩)
  exact q p H (Keep.refl _ _) (by rw [cut_all e]; exact h)
/-- a slot's value by its place -/
theorem at_lit {α : Type} {xs : List α} {v : α} {i : Int} (j : Nat) (e : i = (j : Int)) (h : xs[j]? = some v) : atI xs i = some v := by
  subst e
  exact atI_nat h
end

/-! ### what isinstance tells -/
section
variable {K : PySem.W.Frag} {H : Hp} {Q : VK}
theorem ty_tup {a : Addr} {xs : List V} (h : Tup H a xs) : TyX K H (.ref a) (.type "tuple") := let ⟨_, e, _⟩ := h; .fTuple e
theorem g_isi {x : V} {n T : String} {k : Bool} (h : TyX K H x (.type n)) (e : kitB n T = some k) (q : Q (.bl k) H) : rIsi K [x, .ty T] H Q := ⟨x, .ty T, _, _, k, rfl, .ty T, h, kit_ty e, q⟩
end
theorem kit_int_int : kitB "int" "int" = some true := by decide +kernel
theorem kit_bool_int : kitB "bool" "int" = some true := by decide +kernel
theorem kit_str_int : kitB "str" "int" = some false := by decide +kernel
theorem kit_none_int : kitB "NoneType" "int" = some false := by decide +kernel
theorem kit_list_int : kitB "list" "int" = some false := by decide +kernel
theorem kit_tuple_int : kitB "tuple" "int" = some false := by decide +kernel
theorem kit_dict_int : kitB "dict" "int" = some false := by decide +kernel
theorem kit_int_bool : kitB "int" "bool" = some false := by decide +kernel
theorem kit_bool_bool : kitB "bool" "bool" = some true := by decide +kernel
theorem kit_str_bool : kitB "str" "bool" = some false := by decide +kernel
theorem kit_none_bool : kitB "NoneType" "bool" = some false := by decide +kernel
theorem kit_list_bool : kitB "list" "bool" = some false := by decide +kernel
theorem kit_tuple_bool : kitB "tuple" "bool" = some false := by decide +kernel
theorem kit_dict_bool : kitB "dict" "bool" = some false := by decide +kernel
end Wg

/-! Wagon, part 6: how long what repr tells is; things as a law's lists hold them. -/
namespace Wg
open PySem PySem.Spec PyProof.Rows L2

/-! ### how long -/
mutual
def cost : PyData → Nat
  | .none => 4
  | .bool _ => 5
  | .int _ => 1921
  | .str x => 10 * x.length + 2
  | .list xs => costs xs + 2
  | .tuple xs => costs xs + 3
  | .dict kvs => costKv kvs + 2
def costs : List PyData → Nat
  | [] => 0
  | x :: xs => cost x + 2 + costs xs
def costKv : List (PyData × PyData) → Nat
  | [] => 0
  | (k, v) :: r => cost k + 2 + cost v + 2 + costKv r
end
/-- texts of moderate signs, whole numbers that str can write -/
def signsOk (x : Str) : Prop := ∀ c ∈ x.cps.toList, c < 16 ^ 8
mutual
def fine : PyData → Prop
  | .none => True
  | .bool _ => True
  | .int i => i.natAbs.log2 < 1920
  | .str x => signsOk x
  | .list xs => fines xs
  | .tuple xs => fines xs
  | .dict kvs => fineKv kvs
def fines : List PyData → Prop
  | [] => True
  | x :: xs => fine x ∧ fines xs
def fineKv : List (PyData × PyData) → Prop
  | [] => True
  | (k, v) :: r => fine k ∧ fine v ∧ fineKv r
end
mutual
theorem fine_show : ∀ {d : PyData}, fine d → d.showable = true
  | .none, _ => rfl
  | .bool _, _ => rfl
  | .int i, h => decide_eq_true h
  | .str _, _ => rfl
  | .list xs, h => by simp only [PyData.showable]; exact fines_show h
  | .tuple xs, h => by simp only [PyData.showable]; exact fines_show h
  | .dict kvs, h => by simp only [PyData.showable]; exact fineKv_show h
theorem fines_show : ∀ {ds : List PyData}, fines ds → PyData.showableAll ds = true
  | [], _ => rfl
  | d :: ds, h => by simp only [PyData.showableAll, Bool.and_eq_true]; exact ⟨fine_show h.1, fines_show h.2⟩
theorem fineKv_show : ∀ {ds : List (PyData × PyData)}, fineKv ds → PyData.showableKv ds = true
  | [], _ => rfl
  | (k, v) :: ds, h => by simp only [PyData.showableKv, Bool.and_eq_true]; exact ⟨⟨fine_show h.1, fine_show h.2.1⟩, fineKv_show h.2.2⟩
end
theorem list_text (ts : List Str) : (listText ts).length ≤ piled ts + 2 := by
  have key : ∀ (ts : List Str) (k : Nat) (acc : Str), (textFrom k acc ts).length ≤ acc.length + piled ts := by
    intro ts
    induction ts with
    | nil =>
      intro k acc
      simp [textFrom, piled]
    | cons t r ih =>
      intro k acc
      have q := ih (k + 1) (acc ++ (if k > 0 then ", " else "" : String) ++ t)
      have e2 : (((if k > 0 then ", " else "" : String) : Str)).length ≤ 2 := by split <;> decide +kernel
      rw [strLen_append, strLen_append] at q
      show (textFrom (k + 1) (acc ++ (if k > 0 then ", " else "" : String) ++ t) r).length ≤ _
      rw [piled_cons]
      omega
  unfold listText
  have e1 : (("[" : String) : Str).length = 1 := rfl
  have e2 : (("]" : String) : Str).length = 1 := rfl
  have q := key ts 0 "["
  rw [strLen_append, e2]
  rw [e1] at q
  omega
theorem tuple_text (ts : List Str) : (tupleText ts).length ≤ piled ts + 3 := by
  unfold tupleText
  have e1 : (("(" : String) : Str).length = 1 := rfl
  have e3 : (((if ts.length == 1 then ",)" else ")" : String) : Str)).length ≤ 2 := by split <;> decide +kernel
  rw [strLen_append, strLen_append, e1]
  by_cases h : ts = []
  · subst h
    decide +kernel
  · have := join_length_add ts h
    omega
theorem dict_text (ts : List Str) : (dictText ts).length ≤ piled ts + 2 := by
  unfold dictText
  have e1 : (("{" : String) : Str).length = 1 := rfl
  have e3 : (("}" : String) : Str).length = 1 := rfl
  rw [strLen_append, strLen_append, e1, e3]
  by_cases h : ts = []
  · subst h
    decide +kernel
  · have := join_length_add ts h
    omega
mutual
theorem shown_le : ∀ {d : PyData}, fine d → d.shown.length ≤ cost d
  | .none, _ => by decide +kernel
  | .bool b, _ => by cases b <;> decide +kernel
  | .int i, h => by
    simp only [PyData.shown, cost]
    rw [PySem.ofString_length]
    exact int_text_length_le (by decide) h
  | .str x, h => by
    simp only [PyData.shown, cost]
    exact StrLaws.reprText_len x h
  | .list xs, h => by
    simp only [PyData.shown, cost]
    have := list_text (PyData.shownAll xs)
    have := shownAll_le h
    omega
  | .tuple xs, h => by
    simp only [PyData.shown, cost]
    have := tuple_text (PyData.shownAll xs)
    have := shownAll_le h
    omega
  | .dict kvs, h => by
    simp only [PyData.shown, cost]
    have := dict_text (PyData.shownKv kvs)
    have := shownKv_le h
    omega
theorem shownAll_le : ∀ {ds : List PyData}, fines ds → piled (PyData.shownAll ds) ≤ costs ds
  | [], _ => Nat.le_refl _
  | d :: ds, h => by
    have h1 := shown_le h.1
    have h2 := shownAll_le h.2
    simp only [PyData.shownAll, costs, piled_cons]
    omega
theorem shownKv_le : ∀ {ds : List (PyData × PyData)}, fineKv ds → piled (PyData.shownKv ds) ≤ costKv ds
  | [], _ => Nat.le_refl _
  | (k, v) :: ds, h => by
    have h1 := shown_le h.1
    have h2 := shown_le h.2.1
    have h3 := shownKv_le h.2.2
    have e : ((": " : String) : Str).length = 2 := rfl
    simp only [PyData.shownKv, costKv, piled_cons, strLen_append, e]
    omega
end
mutual
theorem Dp.keep {K : PySem.W.Frag} {H H' : Hp} (k : Keep [] H H') : ∀ {v : V} {d : PyData}, Dp K H v d → Dp K H' v d
  | _, _, .non => .non
  | _, _, .bl b => .bl b
  | _, _, .int i => .int i
  | _, _, .str x => .str x
  | _, _, .lst h q => .lst (sq_keep h k nin0) (DpAll.keep k q)
  | _, _, .tup h q => .tup (by
      rcases h with (h | ⟨o, h⟩) | h
      · exact .inl (.inl (k _ _ nin0 h))
      · exact .inl (.inr ⟨o, k _ _ nin0 h⟩)
      · exact .inr h) (DpAll.keep k q)
theorem DpAll.keep {K : PySem.W.Frag} {H H' : Hp} (k : Keep [] H H') : ∀ {vs : List V} {ds : List PyData}, DpAll K H vs ds → DpAll K H' vs ds
  | _, _, .nil => .nil
  | _, _, .cons h q => .cons (Dp.keep k h) (DpAll.keep k q)
end
/-- a thing that repr tells -/
inductive Th (K : PySem.W.Frag) (H : Hp) : V → PyData → Prop
  | dp {v : V} {d : PyData} : Dp K H v d → fine d → cost d ≤ 10000000 → d.depth ≤ 100 → Th K H v d
  | dic {a : Addr} {kvs : List (Key × V)} {ds : List PyData} : H a = some (.dK kvs) → DtAll K H (kvs.map (·.2)) ds → fine (.dict ((kvs.map fun p => keyD p.1).zip ds)) → cost (.dict ((kvs.map fun p => keyD p.1).zip ds)) ≤ 10000000 →
      (PyData.dict ((kvs.map fun p => keyD p.1).zip ds)).depth ≤ 100 → Th K H (.ref a) (.dict ((kvs.map fun p => keyD p.1).zip ds))
theorem line_big {n : Nat} (h : n ≤ 10000000) : n ≤ sizeLine := by
  rw [sizeLine_eq]
  omega
theorem g_rep {K : PySem.W.Frag} {H : Hp} {v : V} {d : PyData} {Q : VK} (h : Th K H v d) (q : Q (.str d.shown) H) : uRep K [v] H Q := by
  cases h with
  | dp h1 h2 h3 h4 => exact .inl ⟨v, d, rfl, h1, fine_show h2, h4, Nat.le_trans (shown_le h2) (line_big h3), q⟩
  | dic h1 h2 h3 h4 h5 => exact .inr ⟨_, _, _, rfl, h1, h2, fine_show h3, h5, Nat.le_trans (shown_le h3) (line_big h4), q⟩
theorem Th.keep {K : PySem.W.Frag} {H H' : Hp} (k : Keep [] H H') {v : V} {d : PyData} (h : Th K H v d) : Th K H' v d := by
  cases h with
  | dp h1 h2 h3 h4 => exact .dp (Dp.keep k h1) h2 h3 h4
  | dic h1 h2 h3 h4 h5 => exact .dic (k _ _ nin0 h1) (h2.keep k fun _ _ _ => nin0) h3 h4 h5
end Wg

/-! Wagon, part 7: loops and comprehensions by what holds ahead of each turn. -/
namespace Wg
open PySem PySem.Spec PyProof.Rows L2

/-- n turns, the i-th with the item it i -/
def Loop (n : Nat) (it : Nat → V) (g : TG) (tb : TS) (D : Ends) (σ : L2.St) (H : Hp) : Prop :=
  ∃ Pv : Nat → L2.St → Hp → Prop, Pv 0 σ H ∧ (∀ i σ H, i < n → Pv i σ H → g (it i) σ H fun σ2 H2 => tb { D with nx := Pv (i + 1), ct := Pv (i + 1), bk := D.nx } σ2 H2) ∧ ∀ σ H, Pv n σ H → D.nx σ H
/-- the same, told of the argument's end -/
theorem L_range1 {g : TG} {tb : TS} {D : Ends} {σ : L2.St} {H1 : Hp} {j : Int} (b1 : -(2 ^ 62) ≤ j) (b2 : j < 2 ^ 62) (h : Loop j.toNat (fun i => .int (i : Nat)) g tb D σ H1) :
    ∃ k : Int, [V.int j] = [V.int k] ∧ -(2 ^ 62) ≤ k ∧ k < 2 ^ 62 ∧ ∃ W : Nat → Nat → L2.St → Hp → Prop, (∃ m, W 0 m σ H1) ∧ ∀ i m σ H, W i m σ H →
      ((Itr 0 k.toNat).stop i H ∧ D.nx σ H) ∨ ((Itr 0 k.toNat).go i H ∧ ∃ N : L2.St → Hp → Prop, (∀ σ' H', N σ' H' → ∃ m', m' < m ∧ W (i + 1) m' σ' H') ∧ ∀ x H', (Itr 0 k.toNat).yld i H x H' → g x σ H' fun σ2 H2 => tb { D with nx := N, ct := N, bk := D.nx } σ2 H2) := by
  obtain ⟨Pv, p0, ps, pd⟩ := h
  refine ⟨j, rfl, b1, b2, for_range (lo := 0) (n := j.toNat) Pv p0 (fun i σ H hi p => ?_) pd⟩
  have q := ps i σ H hi p
  rw [Int.zero_add]
  exact q
/-- what a for over range asks, behind its argument -/
def FR1 (g : TG) (tb : TS) (D : Ends) (σ : L2.St) (vs : List V) (H1 : Hp) : Prop := ∃ j : Int, vs = [.int j] ∧ -(2 ^ 62) ≤ j ∧ j < 2 ^ 62 ∧ ∃ W : Nat → Nat → L2.St → Hp → Prop, (∃ m, W 0 m σ H1) ∧ ∀ i m σ H, W i m σ H →
  ((Itr 0 j.toNat).stop i H ∧ D.nx σ H) ∨ ((Itr 0 j.toNat).go i H ∧ ∃ N : L2.St → Hp → Prop, (∀ σ' H', N σ' H' → ∃ m', m' < m ∧ W (i + 1) m' σ' H') ∧ ∀ x H', (Itr 0 j.toNat).yld i H x H' → g x σ H' fun σ2 H2 => tb { D with nx := N, ct := N, bk := D.nx } σ2 H2)
theorem e_for1 {ta : TA} {g : TG} {tb : TS} {D : Ends} {σ : L2.St} {H : Hp} : tFor (iRng1 ta) g tb D σ H ↔ ta σ H (FR1 g tb D σ) := Iff.rfl
theorem g_FR1 {g : TG} {tb : TS} {D : Ends} {σ : L2.St} {H1 : Hp} {j : Int} (b1 : -(2 ^ 62) ≤ j) (b2 : j < 2 ^ 62) (h : Loop j.toNat (fun i => .int (i : Nat)) g tb D σ H1) : FR1 g tb D σ [.int j] H1 := L_range1 b1 b2 h
def FR2 (g : TG) (tb : TS) (D : Ends) (σ : L2.St) (vs : List V) (H1 : Hp) : Prop := ∃ i0 j : Int, vs = [.int i0, .int j] ∧ (-(2 ^ 62) ≤ i0 ∧ i0 < 2 ^ 62 ∧ -(2 ^ 62) ≤ j ∧ j < 2 ^ 62) ∧ ∃ W : Nat → Nat → L2.St → Hp → Prop, (∃ m, W 0 m σ H1) ∧ ∀ i m σ H, W i m σ H →
  ((Itr i0 (j - i0).toNat).stop i H ∧ D.nx σ H) ∨ ((Itr i0 (j - i0).toNat).go i H ∧ ∃ N : L2.St → Hp → Prop, (∀ σ' H', N σ' H' → ∃ m', m' < m ∧ W (i + 1) m' σ' H') ∧ ∀ x H', (Itr i0 (j - i0).toNat).yld i H x H' → g x σ H' fun σ2 H2 => tb { D with nx := N, ct := N, bk := D.nx } σ2 H2)
theorem e_for2 {ta : TA} {g : TG} {tb : TS} {D : Ends} {σ : L2.St} {H : Hp} : tFor (iRng2 ta) g tb D σ H ↔ ta σ H (FR2 g tb D σ) := Iff.rfl
/-- a for over a list, a tuple, a text, behind it -/
def FU (K : PySem.W.Frag) (g : TG) (tb : TS) (D : Ends) (σ : L2.St) (x : V) (H1 : Hp) : Prop := iU K (tC x) σ H1 fun J H1 => ∃ W : Nat → Nat → L2.St → Hp → Prop, (∃ m, W 0 m σ H1) ∧ ∀ i m σ H, W i m σ H →
  (J.stop i H ∧ D.nx σ H) ∨ (J.go i H ∧ ∃ N : L2.St → Hp → Prop, (∀ σ' H', N σ' H' → ∃ m', m' < m ∧ W (i + 1) m' σ' H') ∧ ∀ x H', J.yld i H x H' → g x σ H' fun σ2 H2 => tb { D with nx := N, ct := N, bk := D.nx } σ2 H2)
theorem e_forU {K : PySem.W.Frag} {tl : TE} {g : TG} {tb : TS} {D : Ends} {σ : L2.St} {H : Hp} : tFor (iU K tl) g tb D σ H ↔ tl σ H (FU K g tb D σ) := Iff.rfl
/-- over a list that stands still -/
theorem g_FL {K : PySem.W.Frag} {g : TG} {tb : TS} {D : Ends} {σ : L2.St} {H1 : Hp} {a : Addr} {xs : List V} (Pv : Nat → L2.St → Hp → Prop) (h : SqL K H1 a xs) (h0 : Pv 0 σ H1) (hl : ∀ i σ H, i ≤ xs.length → Pv i σ H → SqL K H a xs)
    (hs : ∀ i x σ H, xs[i]? = some x → Pv i σ H → g x σ H fun σ2 H2 => tb { D with nx := Pv (i + 1), ct := Pv (i + 1), bk := D.nx } σ2 H2) (hd : ∀ σ H, Pv xs.length σ H → D.nx σ H) : FU K g tb D σ (.ref a) H1 :=
  .inl ⟨a, xs, rfl, h, for_list Pv h0 hl hs hd⟩
theorem g_FT {K : PySem.W.Frag} {g : TG} {tb : TS} {D : Ends} {σ : L2.St} {H1 : Hp} {a : Addr} {xs : List V} (Pv : Nat → L2.St → Hp → Prop) (h : Tup H1 a xs) (h0 : Pv 0 σ H1) (hl : ∀ i σ H, i ≤ xs.length → Pv i σ H → Tup H a xs)
    (hs : ∀ i x σ H, xs[i]? = some x → Pv i σ H → g x σ H fun σ2 H2 => tb { D with nx := Pv (i + 1), ct := Pv (i + 1), bk := D.nx } σ2 H2) (hd : ∀ σ H, Pv xs.length σ H → D.nx σ H) : FU K g tb D σ (.ref a) H1 :=
  .inr (.inl ⟨a, xs, rfl, h.sq, for_tup Pv h0 (fun i σ H l p => (hl i σ H l p).sq) hs hd⟩)
/-- the script: locked, or an object of the module -/
def Scr (K : PySem.W.Frag) (H : Hp) (a : Addr) (xs : List V) : Prop :=
  (∃ o, H a = some (.frz o (.lst xs))) ∨ ∃ (o : Obj) (its : Array Value) (n : Nat), K.lookup a = some o ∧ o.cls = .type "list" ∧ o.dict = none ∧ o.data = .seq its n ∧ its.size ≤ sizeLine ∧ Vals xs its.toList
theorem Scr.sq {K : PySem.W.Frag} {H : Hp} {a : Addr} {xs : List V} (h : Scr K H a xs) : SqL K H a xs := h.elim (fun h => .inl (.inr h)) .inr
theorem Scr.keep {K : PySem.W.Frag} {S : List Addr} {H H' : Hp} {a : Addr} {xs : List V} (h : Scr K H a xs) (k : Keep S H H') (n : ∀ o, H a = some o → a ∉ S) : Scr K H' a xs :=
  h.elim (fun ⟨o, e⟩ => .inl ⟨o, k _ _ (n _ e) e⟩) .inr
theorem Scr.keep0 {K : PySem.W.Frag} {H H' : Hp} {a : Addr} {xs : List V} (h : Scr K H a xs) (k : Keep [] H H') : Scr K H' a xs := h.keep k fun _ _ => nin0
/-- a new object comes and is changed -/
theorem Scr.past {K : PySem.W.Frag} {H H1 H2 : Hp} {a p : Addr} {xs : List V} (h : Scr K H a xs) (n : H p = none) (k1 : Keep [] H H1) (k2 : Keep [p] H1 H2) : Scr K H2 a xs :=
  h.elim (fun ⟨o, e⟩ => .inl ⟨o, k2 _ _ (nin1 (ne_of_none e n)) (k1 _ _ nin0 e)⟩) .inr
theorem Scr.of {K : PySem.W.Frag} {H : Hp} {a : Addr} {xs : List V} (o : Only H) (h : SqL K H a xs) : Scr K H a xs := by
  rcases h with (h | h) | h
  · rcases o a with z | ⟨ob, ys, z⟩
    · exact nomatch z.symm.trans h
    · exact nomatch z.symm.trans h
  · exact .inl h
  · exact .inr h
theorem e_ten6 : (10 : Int) ^ (6 : Int).toNat = 1000000 := by decide
theorem e_ten18 : (10 : Int) ^ (18 : Int).toNat = 1000000000000000000 := by decide
theorem e_ten60 : (10 : Int) ^ (60 : Int).toNat = 10 ^ 60 := rfl
theorem len1 {α : Type} {a : α} : [a].length ≤ sizeLine := by show 1 ≤ sizeLine; decide
theorem len_le {n : Nat} (h : n ≤ 1000000) : n ≤ sizeLine := by
  rw [sizeLine_eq]
  omega
theorem len_lt {n : Nat} (h : n ≤ 1000000) : n < sizeLine := by
  rw [sizeLine_eq]
  omega
end Wg

namespace Wg
open PySem PySem.Spec PyProof.Rows L2
def topS (i : Nat) : Stmt := PySem.Challenge.pw_wagoncalls_k02_moments_and_grades.main.body.getD i (.Pass ⟨0, 0, 0, 0⟩)
/-! wagoncalls_k02_moments_and_grades: the text and the derivations, written by gen.py -/
abbrev s_is_whole_ : Stmt := topS 3
abbrev N_is_whole : List Str := ["thing"]
theorem sc_is_whole : FnScope N_is_whole ["thing"] (defScope s_is_whole_) := ⟨rfl, rfl, rfl, by decide +kernel, rfl, by decide +kernel, by decide +kernel⟩
def t_is_whole (K : PySem.W.Frag) : TS :=
  tRet (tAndT K (tCB (rIsi K) (tCons (tVar 0) (tCons (tC (.ty "int")) (tNil)))) (tNotT K (tCB (rIsi K) (tCons (tVar 0) (tCons (tC (.ty "bool")) (tNil))))))
theorem dv_is_whole {P : Program} {w : World} {K : PySem.W.Frag} {mg : Str → Option Value} {b : Heap} {a : Addr} {d : FuncData} {sp : Sp} (F : Fn K mg "is_whole" s_is_whole_ a d ["thing"])
    (n_isinstance : mg "isinstance" = none)
    (n_int : mg "int" = none)
    (n_bool : mg "bool" = none)
    (len : ∀ vs H Q E, sp vs H Q E → vs.length = 1)
    (rd : ∀ vs H Q E, sp vs H Q E → run (t_is_whole K) (start N_is_whole vs) H Q) : Keeps P w K mg b CX0 2 a d ["thing"] sp := by
  refine keeps0 F.fn sc_is_whole len fun cdv A o s H vs Q E hr h => ⟨t_is_whole K, ?_, rd vs H Q E h⟩
  unfold t_is_whole 
  exact (pss_one (ps_ret (pe_andT (pe_callB call_isi (by rfl) n_isinstance (by decide +kernel) (pa_cons (pv 0) (pa_cons (pe_bltn (v := .ty "int") (by rfl) n_int (by decide +kernel) rfl) pa_nil))) (pe_one (pe_notT (pe_callB call_isi (by rfl) n_isinstance (by decide +kernel) (pa_cons (pv 0) (pa_cons (pe_bltn (v := .ty "bool") (by rfl) n_bool (by decide +kernel) rfl) pa_nil))))))))

abbrev s_is_within_ : Stmt := topS 4
abbrev N_is_within : List Str := ["thing", "least", "most"]
theorem sc_is_within : FnScope N_is_within ["thing", "least", "most"] (defScope s_is_within_) := ⟨rfl, rfl, rfl, by decide +kernel, rfl, by decide +kernel, by decide +kernel⟩
def t_is_within (K : PySem.W.Frag) (s_is_whole : Sp) : TS :=
  tRet (tAndT K (tGo s_is_whole E0 (tCons (tVar 0) (tNil))) (tChain (rI0 fun i j => .bl (decide (i ≤ j))) (rI0 fun i j => .bl (decide (i ≤ j))) (tVar 1) (tVar 0) (tVar 2)))
theorem dv_is_within {P : Program} {w : World} {K : PySem.W.Frag} {mg : Str → Option Value} {b : Heap} {a : Addr} {d : FuncData} {sp : Sp} (F : Fn K mg "is_within" s_is_within_ a d ["thing", "least", "most"])
    {a_is_whole : Addr} {d_is_whole : FuncData} {s_is_whole : Sp} (F_is_whole : Fn K mg "is_whole" s_is_whole_ a_is_whole d_is_whole ["thing"]) (k_is_whole : Keeps P w K mg b CX0 2 a_is_whole d_is_whole ["thing"] s_is_whole)
    (len : ∀ vs H Q E, sp vs H Q E → vs.length = 3)
    (rd : ∀ vs H Q E, sp vs H Q E → run (t_is_within K s_is_whole) (start N_is_within vs) H Q) : Keeps P w K mg b CX0 3 a d ["thing", "least", "most"] sp := by
  refine keeps0 F.fn sc_is_within len fun cdv A o s H vs Q E hr h => ⟨t_is_within K s_is_whole, ?_, rd vs H Q E h⟩
  unfold t_is_within 
  exact (pss_one (ps_ret (pe_andT (pe_go k_is_whole (hr.mono (by decide)) rfl F_is_whole.g F_is_whole.fn.kp F_is_whole.b pass0 (pa_cons (pv 0) pa_nil)) (pe_one (pe_chain op_le op_le (pv 1) (pv 0) (pv 2))))))

abbrev s_is_moment_ : Stmt := topS 5
abbrev N_is_moment : List Str := ["thing"]
theorem sc_is_moment : FnScope N_is_moment ["thing"] (defScope s_is_moment_) := ⟨rfl, rfl, rfl, by decide +kernel, rfl, by decide +kernel, by decide +kernel⟩
def t_is_moment (K : PySem.W.Frag) (s_is_within : Sp) : TS :=
  tRet (tGo s_is_within E0 (tCons (tVar 0) (tCons (tC (.int 0)) (tCons (tC (.int 1000000)) (tNil)))))
theorem dv_is_moment {P : Program} {w : World} {K : PySem.W.Frag} {mg : Str → Option Value} {b : Heap} {a : Addr} {d : FuncData} {sp : Sp} (F : Fn K mg "is_moment" s_is_moment_ a d ["thing"])
    {a_is_within : Addr} {d_is_within : FuncData} {s_is_within : Sp} (F_is_within : Fn K mg "is_within" s_is_within_ a_is_within d_is_within ["thing", "least", "most"]) (k_is_within : Keeps P w K mg b CX0 3 a_is_within d_is_within ["thing", "least", "most"] s_is_within)
    {k_LAST_MOMENT : Tok} (c_LAST_MOMENT : mg "LAST_MOMENT" = some (.int 1000000 k_LAST_MOMENT))
    (len : ∀ vs H Q E, sp vs H Q E → vs.length = 1)
    (rd : ∀ vs H Q E, sp vs H Q E → run (t_is_moment K s_is_within) (start N_is_moment vs) H Q) : Keeps P w K mg b CX0 4 a d ["thing"] sp := by
  refine keeps0 F.fn sc_is_moment len fun cdv A o s H vs Q E hr h => ⟨t_is_moment K s_is_within, ?_, rd vs H Q E h⟩
  unfold t_is_moment 
  exact (pss_one (ps_ret (pe_go k_is_within (hr.mono (by decide)) rfl F_is_within.g F_is_within.fn.kp F_is_within.b pass0 (pa_cons (pv 0) (pa_cons pe_int (pa_cons (pe_glob rfl c_LAST_MOMENT ⟨_, rfl⟩) pa_nil))))))

abbrev s_is_grade_ : Stmt := topS 6
abbrev N_is_grade : List Str := ["thing"]
theorem sc_is_grade : FnScope N_is_grade ["thing"] (defScope s_is_grade_) := ⟨rfl, rfl, rfl, by decide +kernel, rfl, by decide +kernel, by decide +kernel⟩
def t_is_grade (K : PySem.W.Frag) (s_is_within : Sp) : TS :=
  tRet (tGo s_is_within E0 (tCons (tVar 0) (tCons (tC (.int 1)) (tCons (tC (.int 5)) (tNil)))))
theorem dv_is_grade {P : Program} {w : World} {K : PySem.W.Frag} {mg : Str → Option Value} {b : Heap} {a : Addr} {d : FuncData} {sp : Sp} (F : Fn K mg "is_grade" s_is_grade_ a d ["thing"])
    {a_is_within : Addr} {d_is_within : FuncData} {s_is_within : Sp} (F_is_within : Fn K mg "is_within" s_is_within_ a_is_within d_is_within ["thing", "least", "most"]) (k_is_within : Keeps P w K mg b CX0 3 a_is_within d_is_within ["thing", "least", "most"] s_is_within)
    {k_LAST_GRADE : Tok} (c_LAST_GRADE : mg "LAST_GRADE" = some (.int 5 k_LAST_GRADE))
    (len : ∀ vs H Q E, sp vs H Q E → vs.length = 1)
    (rd : ∀ vs H Q E, sp vs H Q E → run (t_is_grade K s_is_within) (start N_is_grade vs) H Q) : Keeps P w K mg b CX0 4 a d ["thing"] sp := by
  refine keeps0 F.fn sc_is_grade len fun cdv A o s H vs Q E hr h => ⟨t_is_grade K s_is_within, ?_, rd vs H Q E h⟩
  unfold t_is_grade 
  exact (pss_one (ps_ret (pe_go k_is_within (hr.mono (by decide)) rfl F_is_within.g F_is_within.fn.kp F_is_within.b pass0 (pa_cons (pv 0) (pa_cons pe_int (pa_cons (pe_glob rfl c_LAST_GRADE ⟨_, rfl⟩) pa_nil))))))

abbrev s__law_pen_ : Stmt := topS 8
abbrev N__law_pen : List Str := ["script", "k", "cell", "digits"]
theorem sc__law_pen : FnScope N__law_pen ["script", "k"] (defScope s__law_pen_) := ⟨rfl, rfl, rfl, by decide +kernel, rfl, by decide +kernel, by decide +kernel⟩
def t__law_pen_r1 (K : PySem.W.Frag) : TS :=
  tRet (tLstU (tCons (tVar 3) (tCons (tOp (rI (fun _ j => 0 < j) fun i j => .int (i % j)) (tVar 2) (tC (.int 2147483629))) (tCons (tC (.int 0)) (tNil)))))
def t__law_pen_r2 (K : PySem.W.Frag) : TS :=
  tSeq (tAsg (tC (.int 0)) (gName 3)) (tSeq (tIfS (tTest (tOp (rI0 fun i j => .bl (decide (j ≤ i))) (tCB (uAbs) (tCons (tVar 2) (tNil))) (tOp (rI CPow fun i j => .int (i ^ j.toNat)) (tC (.int 10)) (tC (.int 18))))) (tAsg (tCB (uAbs) (tCons (tVar 2) (tNil))) (gName 3)) (tNext)) (t__law_pen_r1 K))
def t__law_pen (K : PySem.W.Frag) : TS :=
  tSeq (tAsg (tC (.int 0)) (gName 2)) (tSeq (tIfS (tTest (tOp (rI0 fun i j => .bl (decide (i < j))) (tVar 1) (tCB (uLen K) (tCons (tVar 0) (tNil))))) (tAsg (tOp (uIx K) (tVar 0) (tVar 1)) (gName 2)) (tNext)) (t__law_pen_r2 K))
theorem dv__law_pen {P : Program} {w : World} {K : PySem.W.Frag} {mg : Str → Option Value} {b : Heap} {a : Addr} {d : FuncData} {sp : Sp} (F : Fn K mg "_law_pen" s__law_pen_ a d ["script", "k"])
    (n_len : mg "len" = none)
    (n_abs : mg "abs" = none)
    (len : ∀ vs H Q E, sp vs H Q E → vs.length = 2)
    (rd : ∀ vs H Q E, sp vs H Q E → run (t__law_pen K) (start N__law_pen vs) H Q) : Keeps P w K mg b CX0 2 a d ["script", "k"] sp := by
  refine keeps0 F.fn sc__law_pen len fun cdv A o s H vs Q E hr h => ⟨t__law_pen K, ?_, rd vs H Q E h⟩
  unfold t__law_pen t__law_pen_r2 t__law_pen_r1
  exact (pss_cons (ps_set (i := 2) sc__law_pen.nd rfl (.inl rfl) pe_int)
  (pss_cons (ps_if (pt_cmpR op_lt (pv 1) (pe_callB call_uLen (by rfl) n_len (by decide +kernel) (pa_cons (pv 0) pa_nil)) (nomark _)) (pss_one (ps_set (i := 2) sc__law_pen.nd rfl (.inl rfl) (pe_ix ix_u (pv 0) (pv 1) (fun _ _ => rfl)))) pss_nil)
  (pss_cons (ps_set (i := 3) sc__law_pen.nd rfl (.inl rfl) pe_int)
  (pss_cons (ps_if (pt_cmpR op_ge (pe_callB call_uAbs (by rfl) n_abs (by decide +kernel) (pa_cons (pv 2) pa_nil)) (pe_op op_pow pe_int pe_int) (nomark _)) (pss_one (ps_set (i := 3) sc__law_pen.nd rfl (.inl rfl) (pe_callB call_uAbs (by rfl) n_abs (by decide +kernel) (pa_cons (pv 2) pa_nil)))) pss_nil)
  (pss_one (ps_ret (pe_lstU (pa_cons (pv 3) (pa_cons (pe_op op_mod (pv 2) pe_int) (pa_cons pe_int pa_nil))))))))))

abbrev s__law_draw_ : Stmt := topS 9
abbrev N__law_draw : List Str := ["pen", "base", "found", "many", "number"]
theorem sc__law_draw : FnScope N__law_draw ["pen", "base"] (defScope s__law_draw_) := ⟨rfl, rfl, rfl, by decide +kernel, rfl, by decide +kernel, by decide +kernel⟩
def t__law_draw_r1 (K : PySem.W.Frag) : TS :=
  tSeq (tAsg (tOp (uAdd K) (tOp (uIx K) (tVar 0) (tC (.int 2))) (tC (.int 1))) (gSub (tVar 0) (tC (.int 2)) uSetL)) (tSeq (tAsg (tOp (uIx K) (tVar 0) (tC (.int 2))) (gName 3)) (tSeq (tAsg (tOp (rI (fun _ j => 0 < j) fun i j => .int (i % j)) (tOp (uAdd K) (tOp (uAdd K) (tOp uMul (tOp (uIx K) (tVar 0) (tC (.int 1))) (tC (.int 40503))) (tOp uMul (tOp uMul (tC (.int 7919)) (tVar 3)) (tVar 3))) (tOp uMul (tC (.int 104729)) (tVar 3))) (tC (.int 2147483647))) (gName 4)) (tSeq (tAsg (tOp (rI (fun _ j => 0 < j) fun i j => .int (i % j)) (tOp uMul (tVar 4) (tOp (uAdd K) (tOp (rI (fun _ j => 0 < j) fun i j => .int (i % j)) (tVar 4) (tC (.int 65003))) (tC (.int 3)))) (tC (.int 2147483587))) (gName 4)) (tRet (tOp (rI (fun _ j => 0 < j) fun i j => .int (i % j)) (tOp (rI CDiv fun i j => .int (i / j)) (tOp (rI (fun _ j => 0 < j) fun i j => .int (i % j)) (tOp (uAdd K) (tOp uMul (tVar 4) (tC (.int 69621))) (tVar 3)) (tC (.int 2147483563))) (tC (.int 16))) (tVar 1))))))
def t__law_draw (K : PySem.W.Frag) : TS :=
  tSeq (tIfS (tTest (tOp (rI0 fun i j => .bl (decide (j < i))) (tOp (uIx K) (tVar 0) (tC (.int 0))) (tC (.int 0)))) (tSeq (tAsg (tOp (rI (fun _ j => 0 < j) fun i j => .int (i % j)) (tOp (uIx K) (tVar 0) (tC (.int 0))) (tVar 1)) (gName 2)) (tSeq (tAsg (tOp (rI CDiv fun i j => .int (i / j)) (tOp (uIx K) (tVar 0) (tC (.int 0))) (tVar 1)) (gSub (tVar 0) (tC (.int 0)) uSetL)) (tRet (tVar 2)))) (tNext)) (t__law_draw_r1 K)
theorem dv__law_draw {P : Program} {w : World} {K : PySem.W.Frag} {mg : Str → Option Value} {b : Heap} {a : Addr} {d : FuncData} {sp : Sp} (F : Fn K mg "_law_draw" s__law_draw_ a d ["pen", "base"])
    (len : ∀ vs H Q E, sp vs H Q E → vs.length = 2)
    (rd : ∀ vs H Q E, sp vs H Q E → run (t__law_draw K) (start N__law_draw vs) H Q) : Keeps P w K mg b CX0 2 a d ["pen", "base"] sp := by
  refine keeps0 F.fn sc__law_draw len fun cdv A o s H vs Q E hr h => ⟨t__law_draw K, ?_, rd vs H Q E h⟩
  unfold t__law_draw t__law_draw_r1
  exact (pss_cons (ps_if (pt_cmpR op_gt (pe_ix ix_u (pv 0) pe_int (fun _ _ => rfl)) pe_int (nomark _)) (pss_cons (ps_set (i := 2) sc__law_draw.nd rfl (.inl rfl) (pe_op op_mod (pe_ix ix_u (pv 0) pe_int (fun _ _ => rfl)) (pv 1)))
  (pss_cons (ps_asg (pe_op op_fdiv (pe_ix ix_u (pv 0) pe_int (fun _ _ => rfl)) (pv 1)) (pg_sub (pv 0) pe_int set_u))
  (pss_one (ps_ret (pv 2))))) pss_nil)
  (pss_cons (ps_asg (pe_op op_uAdd (pe_ix ix_u (pv 0) pe_int (fun _ _ => rfl)) pe_int) (pg_sub (pv 0) pe_int set_u))
  (pss_cons (ps_set (i := 3) sc__law_draw.nd rfl (.inl rfl) (pe_ix ix_u (pv 0) pe_int (fun _ _ => rfl)))
  (pss_cons (ps_set (i := 4) sc__law_draw.nd rfl (.inl rfl) (pe_op op_mod (pe_op op_uAdd (pe_op op_uAdd (pe_op op_uMul (pe_ix ix_u (pv 0) pe_int (fun _ _ => rfl)) pe_int) (pe_op op_uMul (pe_op op_uMul pe_int (pv 3)) (pv 3))) (pe_op op_uMul pe_int (pv 3))) pe_int))
  (pss_cons (ps_set (i := 4) sc__law_draw.nd rfl (.inl rfl) (pe_op op_mod (pe_op op_uMul (pv 4) (pe_op op_uAdd (pe_op op_mod (pv 4) pe_int) pe_int)) pe_int))
  (pss_one (ps_ret (pe_op op_mod (pe_op op_fdiv (pe_op op_mod (pe_op op_uAdd (pe_op op_uMul (pv 4) pe_int) (pv 3)) pe_int) pe_int) (pv 1)))))))))

abbrev s__law_far_ : Stmt := topS 10
abbrev N__law_far : List Str := ["pen", "found", "turn"]
theorem sc__law_far : FnScope N__law_far ["pen"] (defScope s__law_far_) := ⟨rfl, rfl, rfl, by decide +kernel, rfl, by decide +kernel, by decide +kernel⟩
def t__law_far_b1 (K : PySem.W.Frag) (s__law_draw : Sp) : TS :=
  tAsg (tOp (uAdd K) (tOp uMul (tVar 1) (tOp (rI CPow fun i j => .int (i ^ j.toNat)) (tC (.int 10)) (tC (.int 6)))) (tGo s__law_draw E0 (tCons (tVar 0) (tCons (tOp (rI CPow fun i j => .int (i ^ j.toNat)) (tC (.int 10)) (tC (.int 6))) (tNil))))) (gName 1)
def t__law_far_r1 (K : PySem.W.Frag) (s__law_draw : Sp) : TS :=
  tRet (tOp uMul (tVar 1) (tOp (rI0 fun i j => .int (i - j)) (tC (.int 1)) (tOp uMul (tC (.int 2)) (tGo s__law_draw E0 (tCons (tVar 0) (tCons (tC (.int 2)) (tNil)))))))
def t__law_far (K : PySem.W.Frag) (s__law_draw : Sp) : TS :=
  tSeq (tAsg (tC (.int 0)) (gName 1)) (tSeq (tFor (iRng1 (tCons (tOp (uAdd K) (tC (.int 1)) (tGo s__law_draw E0 (tCons (tVar 0) (tCons (tC (.int 10)) (tNil))))) (tNil))) (gName 2) (t__law_far_b1 K s__law_draw)) (t__law_far_r1 K s__law_draw))
theorem dv__law_far {P : Program} {w : World} {K : PySem.W.Frag} {mg : Str → Option Value} {b : Heap} {a : Addr} {d : FuncData} {sp : Sp} (F : Fn K mg "_law_far" s__law_far_ a d ["pen"])
    (n_range : mg "range" = none)
    {a__law_draw : Addr} {d__law_draw : FuncData} {s__law_draw : Sp} (F__law_draw : Fn K mg "_law_draw" s__law_draw_ a__law_draw d__law_draw ["pen", "base"]) (k__law_draw : Keeps P w K mg b CX0 2 a__law_draw d__law_draw ["pen", "base"] s__law_draw)
    (len : ∀ vs H Q E, sp vs H Q E → vs.length = 1)
    (rd : ∀ vs H Q E, sp vs H Q E → run (t__law_far K s__law_draw) (start N__law_far vs) H Q) : Keeps P w K mg b CX0 3 a d ["pen"] sp := by
  refine keeps0 F.fn sc__law_far len fun cdv A o s H vs Q E hr h => ⟨t__law_far K s__law_draw, ?_, rd vs H Q E h⟩
  unfold t__law_far t__law_far_r1 t__law_far_b1
  exact (pss_cons (ps_set (i := 1) sc__law_far.nd rfl (.inl rfl) pe_int)
  (pss_cons (ps_for PassesOwn.never rfl (pi_range1 (by rfl) n_range (pa_cons (pe_op op_uAdd pe_int (pe_go k__law_draw (hr.mono (by decide)) rfl F__law_draw.g F__law_draw.fn.kp F__law_draw.b pass0 (pa_cons (pv 0) (pa_cons pe_int pa_nil)))) pa_nil)) (pg_name (i := 2) sc__law_far.nd rfl (.inl rfl)) (pss_one (ps_set (i := 1) sc__law_far.nd rfl (.inl rfl) (pe_op op_uAdd (pe_op op_uMul (pv 1) (pe_op op_pow pe_int pe_int)) (pe_go k__law_draw (hr.mono (by decide)) rfl F__law_draw.g F__law_draw.fn.kp F__law_draw.b pass0 (pa_cons (pv 0) (pa_cons (pe_op op_pow pe_int pe_int) pa_nil)))))))
  (pss_one (ps_ret (pe_op op_uMul (pv 1) (pe_op op_sub pe_int (pe_op op_uMul pe_int (pe_go k__law_draw (hr.mono (by decide)) rfl F__law_draw.g F__law_draw.fn.kp F__law_draw.b pass0 (pa_cons (pv 0) (pa_cons pe_int pa_nil))))))))))

abbrev s__law_things_ : Stmt := topS 11
abbrev N__law_things : List Str := ["pen", "step", "found", "one"]
theorem sc__law_things : FnScope N__law_things ["pen"] (defScope s__law_things_) := ⟨rfl, rfl, rfl, by decide +kernel, rfl, by decide +kernel, by decide +kernel⟩
def t__law_things (K : PySem.W.Frag) (s__law_draw : Sp) (s__law_far : Sp) : TS :=
  tSeq (tAsg (tOp (rI0 fun i j => .int (i - j)) (tGo s__law_draw E0 (tCons (tVar 0) (tCons (tC (.int 3)) (tNil)))) (tC (.int 1))) (gName 1)) (tSeq (tAsg (tLstU (tCons (tVar 1) (tCons (tOp (uAdd K) (tOp (rI CPow fun i j => .int (i ^ j.toNat)) (tC (.int 10)) (tC (.int 6))) (tVar 1)) (tCons (tOp (uAdd K) (tC (.int 5)) (tVar 1)) (tCons (tGo s__law_draw E0 (tCons (tVar 0) (tCons (tOp (uAdd K) (tOp (rI CPow fun i j => .int (i ^ j.toNat)) (tC (.int 10)) (tC (.int 6))) (tC (.int 1))) (tNil)))) (tNil)))))) (gName 2)) (tSeq (tAsg (tOp (uAdd K) (tVar 2) (tLstU (tCons (tGo s__law_far E0 (tCons (tVar 0) (tNil))) (tCons (tGo s__law_draw E0 (tCons (tVar 0) (tCons (tC (.int 7)) (tNil)))) (tNil))))) (gName 2)) (tSeq (tAsg (tOp (uIx K) (tVar 2) (tGo s__law_draw E0 (tCons (tVar 0) (tCons (tC (.int 6)) (tNil))))) (gName 3)) (tSeq (tAsg (tOp (uAdd K) (tVar 2) (tLstU (tCons (tC (.int 0)) (tCons (tC (.int 1)) (tCons (tC (.int 5)) (tCons (tC (.int 6)) (tCons (tOp (rI CPow fun i j => .int (i ^ j.toNat)) (tC (.int 10)) (tC (.int 6))) (tCons (tOp (uAdd K) (tOp (rI CPow fun i j => .int (i ^ j.toNat)) (tC (.int 10)) (tC (.int 6))) (tC (.int 1))) (tCons (tUn (rU fun i => .int (-i)) (tC (.int 1))) (tCons (tOp (rI0 fun i j => .int (i - j)) (tOp (rI CPow fun i j => .int (i ^ j.toNat)) (tC (.int 10)) (tC (.int 60))) (tC (.int 1))) (tCons (tOp (rI0 fun i j => .int (i - j)) (tC (.int 1)) (tOp (rI CPow fun i j => .int (i ^ j.toNat)) (tC (.int 10)) (tC (.int 60)))) (tNil)))))))))))) (gName 2)) (tSeq (tAsg (tOp (uAdd K) (tVar 2) (tLstU (tCons (tC (.bl true)) (tCons (tC (.bl false)) (tCons (tC .non) (tCons (tCB (uStr) (tCons (tVar 3) (tNil))) (tCons (tC (.str "")) (tCons (tLstU (tCons (tVar 3) (tNil))) (tCons (tTupU (tCons (tVar 3) (tNil))) (tCons (tDic1 3 3) (tNil))))))))))) (gName 2)) (tRet (tOp (uAdd K) (tVar 2) (tLstU (tCons (tLstU (tNil)) (tCons (tTupU (tNil)) (tCons (tDNewU) (tCons (tC (.str "0:01")) (tNil)))))))))))))
theorem dv__law_things {P : Program} {w : World} {K : PySem.W.Frag} {mg : Str → Option Value} {b : Heap} {a : Addr} {d : FuncData} {sp : Sp} (F : Fn K mg "_law_things" s__law_things_ a d ["pen"])
    {a__law_draw : Addr} {d__law_draw : FuncData} {s__law_draw : Sp} (F__law_draw : Fn K mg "_law_draw" s__law_draw_ a__law_draw d__law_draw ["pen", "base"]) (k__law_draw : Keeps P w K mg b CX0 2 a__law_draw d__law_draw ["pen", "base"] s__law_draw)
    {a__law_far : Addr} {d__law_far : FuncData} {s__law_far : Sp} (F__law_far : Fn K mg "_law_far" s__law_far_ a__law_far d__law_far ["pen"]) (k__law_far : Keeps P w K mg b CX0 3 a__law_far d__law_far ["pen"] s__law_far)
    (n_str : mg "str" = none)
    (len : ∀ vs H Q E, sp vs H Q E → vs.length = 1)
    (rd : ∀ vs H Q E, sp vs H Q E → run (t__law_things K s__law_draw s__law_far) (start N__law_things vs) H Q) : Keeps P w K mg b CX0 4 a d ["pen"] sp := by
  refine keeps0 F.fn sc__law_things len fun cdv A o s H vs Q E hr h => ⟨t__law_things K s__law_draw s__law_far, ?_, rd vs H Q E h⟩
  unfold t__law_things 
  exact (pss_cons (ps_set (i := 1) sc__law_things.nd rfl (.inl rfl) (pe_op op_sub (pe_go k__law_draw (hr.mono (by decide)) rfl F__law_draw.g F__law_draw.fn.kp F__law_draw.b pass0 (pa_cons (pv 0) (pa_cons pe_int pa_nil))) pe_int))
  (pss_cons (ps_set (i := 2) sc__law_things.nd rfl (.inl rfl) (pe_lstU (pa_cons (pv 1) (pa_cons (pe_op op_uAdd (pe_op op_pow pe_int pe_int) (pv 1)) (pa_cons (pe_op op_uAdd pe_int (pv 1)) (pa_cons (pe_go k__law_draw (hr.mono (by decide)) rfl F__law_draw.g F__law_draw.fn.kp F__law_draw.b pass0 (pa_cons (pv 0) (pa_cons (pe_op op_uAdd (pe_op op_pow pe_int pe_int) pe_int) pa_nil))) pa_nil))))))
  (pss_cons (ps_set (i := 2) sc__law_things.nd rfl (.inl rfl) (pe_op op_uAdd (pv 2) (pe_lstU (pa_cons (pe_go k__law_far (hr.mono (by decide)) rfl F__law_far.g F__law_far.fn.kp F__law_far.b pass0 (pa_cons (pv 0) pa_nil)) (pa_cons (pe_go k__law_draw (hr.mono (by decide)) rfl F__law_draw.g F__law_draw.fn.kp F__law_draw.b pass0 (pa_cons (pv 0) (pa_cons pe_int pa_nil))) pa_nil)))))
  (pss_cons (ps_set (i := 3) sc__law_things.nd rfl (.inl rfl) (pe_ix ix_u (pv 2) (pe_go k__law_draw (hr.mono (by decide)) rfl F__law_draw.g F__law_draw.fn.kp F__law_draw.b pass0 (pa_cons (pv 0) (pa_cons pe_int pa_nil))) (fun _ _ => rfl)))
  (pss_cons (ps_set (i := 2) sc__law_things.nd rfl (.inl rfl) (pe_op op_uAdd (pv 2) (pe_lstU (pa_cons pe_int (pa_cons pe_int (pa_cons pe_int (pa_cons pe_int (pa_cons (pe_op op_pow pe_int pe_int) (pa_cons (pe_op op_uAdd (pe_op op_pow pe_int pe_int) pe_int) (pa_cons (pe_un un_neg pe_int) (pa_cons (pe_op op_sub (pe_op op_pow pe_int pe_int) pe_int) (pa_cons (pe_op op_sub pe_int (pe_op op_pow pe_int pe_int)) pa_nil))))))))))))
  (pss_cons (ps_set (i := 2) sc__law_things.nd rfl (.inl rfl) (pe_op op_uAdd (pv 2) (pe_lstU (pa_cons pe_bl (pa_cons pe_bl (pa_cons pe_non (pa_cons (pe_callTy call_uStr (by rfl) n_str (by decide +kernel) (pa_cons (pv 3) pa_nil)) (pa_cons pe_str (pa_cons (pe_lstU (pa_cons (pv 3) pa_nil)) (pa_cons (pe_tupU (pa_cons (pv 3) pa_nil)) (pa_cons (pe_dic1 (pv 3) (pv 3)) pa_nil)))))))))))
  (pss_one (ps_ret (pe_op op_uAdd (pv 2) (pe_lstU (pa_cons (pe_lstU pa_nil) (pa_cons (pe_tupU pa_nil) (pa_cons pe_dnewU (pa_cons pe_str pa_nil))))))))))))))

abbrev s__law_is_ : Stmt := topS 12
abbrev N__law_is : List Str := ["thing", "least", "most"]
theorem sc__law_is : FnScope N__law_is ["thing", "least", "most"] (defScope s__law_is_) := ⟨rfl, rfl, rfl, by decide +kernel, rfl, by decide +kernel, by decide +kernel⟩
def t__law_is (K : PySem.W.Frag) : TS :=
  tRet (tAndT K (tCB (rIsi K) (tCons (tVar 0) (tCons (tC (.ty "int")) (tNil)))) (tAndT K (tNotT K (tCB (rIsi K) (tCons (tVar 0) (tCons (tC (.ty "bool")) (tNil))))) (tChain (rI0 fun i j => .bl (decide (i ≤ j))) (rI0 fun i j => .bl (decide (i ≤ j))) (tVar 1) (tVar 0) (tVar 2))))
theorem dv__law_is {P : Program} {w : World} {K : PySem.W.Frag} {mg : Str → Option Value} {b : Heap} {a : Addr} {d : FuncData} {sp : Sp} (F : Fn K mg "_law_is" s__law_is_ a d ["thing", "least", "most"])
    (n_isinstance : mg "isinstance" = none)
    (n_int : mg "int" = none)
    (n_bool : mg "bool" = none)
    (len : ∀ vs H Q E, sp vs H Q E → vs.length = 3)
    (rd : ∀ vs H Q E, sp vs H Q E → run (t__law_is K) (start N__law_is vs) H Q) : Keeps P w K mg b CX0 2 a d ["thing", "least", "most"] sp := by
  refine keeps0 F.fn sc__law_is len fun cdv A o s H vs Q E hr h => ⟨t__law_is K, ?_, rd vs H Q E h⟩
  unfold t__law_is 
  exact (pss_one (ps_ret (pe_andT (pe_callB call_isi (by rfl) n_isinstance (by decide +kernel) (pa_cons (pv 0) (pa_cons (pe_bltn (v := .ty "int") (by rfl) n_int (by decide +kernel) rfl) pa_nil))) (pe_andT (pe_notT (pe_callB call_isi (by rfl) n_isinstance (by decide +kernel) (pa_cons (pv 0) (pa_cons (pe_bltn (v := .ty "bool") (by rfl) n_bool (by decide +kernel) rfl) pa_nil)))) (pe_one (pe_chain op_le op_le (pv 1) (pv 0) (pv 2)))))))

abbrev s__law_right_ : Stmt := topS 13
abbrev N__law_right : List Str := ["thing", "due"]
theorem sc__law_right : FnScope N__law_right ["thing"] (defScope s__law_right_) := ⟨rfl, rfl, rfl, by decide +kernel, rfl, by decide +kernel, by decide +kernel⟩
def t__law_right (K : PySem.W.Frag) (s__law_is : Sp) (s_is_grade : Sp) (s_is_moment : Sp) : TS :=
  tSeq (tAsg (tLstU (tCons (tGo s__law_is E0 (tCons (tVar 0) (tCons (tC (.int 0)) (tCons (tOp (rI CPow fun i j => .int (i ^ j.toNat)) (tC (.int 10)) (tC (.int 6))) (tNil))))) (tCons (tGo s__law_is E0 (tCons (tVar 0) (tCons (tC (.int 1)) (tCons (tC (.int 5)) (tNil))))) (tNil)))) (gName 1)) (tRet (tOp (uEq K false) (tCB (uRep K) (tCons (tLstU (tCons (tGo s_is_moment E0 (tCons (tVar 0) (tNil))) (tCons (tGo s_is_grade E0 (tCons (tVar 0) (tNil))) (tNil)))) (tNil))) (tCB (uRep K) (tCons (tVar 1) (tNil)))))
theorem dv__law_right {P : Program} {w : World} {K : PySem.W.Frag} {mg : Str → Option Value} {b : Heap} {a : Addr} {d : FuncData} {sp : Sp} (F : Fn K mg "_law_right" s__law_right_ a d ["thing"])
    {a__law_is : Addr} {d__law_is : FuncData} {s__law_is : Sp} (F__law_is : Fn K mg "_law_is" s__law_is_ a__law_is d__law_is ["thing", "least", "most"]) (k__law_is : Keeps P w K mg b CX0 2 a__law_is d__law_is ["thing", "least", "most"] s__law_is)
    (n_repr : mg "repr" = none)
    {a_is_grade : Addr} {d_is_grade : FuncData} {s_is_grade : Sp} (F_is_grade : Fn K mg "is_grade" s_is_grade_ a_is_grade d_is_grade ["thing"]) (k_is_grade : Keeps P w K mg b CX0 4 a_is_grade d_is_grade ["thing"] s_is_grade)
    {a_is_moment : Addr} {d_is_moment : FuncData} {s_is_moment : Sp} (F_is_moment : Fn K mg "is_moment" s_is_moment_ a_is_moment d_is_moment ["thing"]) (k_is_moment : Keeps P w K mg b CX0 4 a_is_moment d_is_moment ["thing"] s_is_moment)
    (len : ∀ vs H Q E, sp vs H Q E → vs.length = 1)
    (rd : ∀ vs H Q E, sp vs H Q E → run (t__law_right K s__law_is s_is_grade s_is_moment) (start N__law_right vs) H Q) : Keeps P w K mg b CX0 5 a d ["thing"] sp := by
  refine keeps0 F.fn sc__law_right len fun cdv A o s H vs Q E hr h => ⟨t__law_right K s__law_is s_is_grade s_is_moment, ?_, rd vs H Q E h⟩
  unfold t__law_right 
  exact (pss_cons (ps_set (i := 1) sc__law_right.nd rfl (.inl rfl) (pe_lstU (pa_cons (pe_go k__law_is (hr.mono (by decide)) rfl F__law_is.g F__law_is.fn.kp F__law_is.b pass0 (pa_cons (pv 0) (pa_cons pe_int (pa_cons (pe_op op_pow pe_int pe_int) pa_nil)))) (pa_cons (pe_go k__law_is (hr.mono (by decide)) rfl F__law_is.g F__law_is.fn.kp F__law_is.b pass0 (pa_cons (pv 0) (pa_cons pe_int (pa_cons pe_int pa_nil)))) pa_nil))))
  (pss_one (ps_ret (pe_cmpR (op_uEq hr.rm.units) (pe_callB (call_uRep (hr.mono (by decide))) (by rfl) n_repr (by decide +kernel) (pa_cons (pe_lstU (pa_cons (pe_go k_is_moment (hr.mono (by decide)) rfl F_is_moment.g F_is_moment.fn.kp F_is_moment.b pass0 (pa_cons (pv 0) pa_nil)) (pa_cons (pe_go k_is_grade (hr.mono (by decide)) rfl F_is_grade.g F_is_grade.fn.kp F_is_grade.b pass0 (pa_cons (pv 0) pa_nil)) pa_nil))) pa_nil)) (pe_callB (call_uRep (hr.mono (by decide))) (by rfl) n_repr (by decide +kernel) (pa_cons (pv 1) pa_nil)) (nomark _)))))

abbrev s_law_ : Stmt := topS 14
abbrev N_law : List Str := ["script", "k", "ahead", "thing", "kept"]
theorem sc_law : FnScope N_law ["script"] (defScope s_law_) := ⟨rfl, rfl, rfl, by decide +kernel, rfl, by decide +kernel, by decide +kernel⟩
def t_law_r1 (K : PySem.W.Frag) (s__law_things : Sp) (s__law_pen : Sp) (s__law_right : Sp) : TS :=
  tAsg (tVar 3) (gName 2)
def t_law_b1 (K : PySem.W.Frag) (s__law_things : Sp) (s__law_pen : Sp) (s__law_right : Sp) : TS :=
  tSeq (tAsg (tCB (uRep K) (tCons (tVar 3) (tNil))) (gName 4)) (tSeq (tIfS (tOr (tNot (tTru K (tGo s__law_right E0 (tCons (tVar 3) (tNil))))) (tOr (tTest (tOp (uEq K true) (tCB (uRep K) (tCons (tVar 3) (tNil))) (tVar 4))) (tNot (tTru K (tGo s__law_right E0 (tCons (tVar 2) (tNil))))))) (tRet (tC (.bl false))) (tNext)) (t_law_r1 K s__law_things s__law_pen s__law_right))
def t_law_b2 (K : PySem.W.Frag) (s__law_things : Sp) (s__law_pen : Sp) (s__law_right : Sp) : TS :=
  tSeq (tAsg (tC .non) (gName 2)) (tFor (iU K (tGo s__law_things E0 (tCons (tGo s__law_pen E0 (tCons (tVar 0) (tCons (tVar 1) (tNil)))) (tNil)))) (gName 3) (t_law_b1 K s__law_things s__law_pen s__law_right))
def t_law_r2 (K : PySem.W.Frag) (s__law_things : Sp) (s__law_pen : Sp) (s__law_right : Sp) : TS :=
  tRet (tC (.bl true))
def t_law (K : PySem.W.Frag) (s__law_things : Sp) (s__law_pen : Sp) (s__law_right : Sp) : TS :=
  tSeq (tFor (iRng1 (tCons (tCB uMax2 (tCons (tC (.int 1)) (tCons (tCB uMin2 (tCons (tC (.int 30)) (tCons (tCB (uLen K) (tCons (tVar 0) (tNil))) (tNil)))) (tNil)))) (tNil))) (gName 1) (t_law_b2 K s__law_things s__law_pen s__law_right)) (t_law_r2 K s__law_things s__law_pen s__law_right)
theorem dv_law {P : Program} {w : World} {K : PySem.W.Frag} {mg : Str → Option Value} {b : Heap} {a : Addr} {d : FuncData} {sp : Sp} (F : Fn K mg "law" s_law_ a d ["script"])
    (n_range : mg "range" = none)
    (n_max : mg "max" = none)
    (n_min : mg "min" = none)
    (n_len : mg "len" = none)
    {a__law_things : Addr} {d__law_things : FuncData} {s__law_things : Sp} (F__law_things : Fn K mg "_law_things" s__law_things_ a__law_things d__law_things ["pen"]) (k__law_things : Keeps P w K mg b CX0 4 a__law_things d__law_things ["pen"] s__law_things)
    {a__law_pen : Addr} {d__law_pen : FuncData} {s__law_pen : Sp} (F__law_pen : Fn K mg "_law_pen" s__law_pen_ a__law_pen d__law_pen ["script", "k"]) (k__law_pen : Keeps P w K mg b CX0 2 a__law_pen d__law_pen ["script", "k"] s__law_pen)
    (n_repr : mg "repr" = none)
    {a__law_right : Addr} {d__law_right : FuncData} {s__law_right : Sp} (F__law_right : Fn K mg "_law_right" s__law_right_ a__law_right d__law_right ["thing"]) (k__law_right : Keeps P w K mg b CX0 5 a__law_right d__law_right ["thing"] s__law_right)
    (len : ∀ vs H Q E, sp vs H Q E → vs.length = 1)
    (rd : ∀ vs H Q E, sp vs H Q E → run (t_law K s__law_things s__law_pen s__law_right) (start N_law vs) H Q) : Keeps P w K mg b CX0 6 a d ["script"] sp := by
  refine keeps0 F.fn sc_law len fun cdv A o s H vs Q E hr h => ⟨t_law K s__law_things s__law_pen s__law_right, ?_, rd vs H Q E h⟩
  unfold t_law t_law_r2 t_law_b2 t_law_b1 t_law_r1
  exact (pss_cons (ps_for PassesOwn.never rfl (pi_range1 (by rfl) n_range (pa_cons (pe_callB (call_uMax2 rfl) (by rfl) n_max (by decide +kernel) (pa_cons pe_int (pa_cons (pe_callB (call_uMin2 rfl) (by rfl) n_min (by decide +kernel) (pa_cons pe_int (pa_cons (pe_callB call_uLen (by rfl) n_len (by decide +kernel) (pa_cons (pv 0) pa_nil)) pa_nil))) pa_nil))) pa_nil)) (pg_name (i := 1) sc_law.nd rfl (.inl rfl)) (pss_cons (ps_set (i := 2) sc_law.nd rfl (.inl rfl) pe_non)
  (pss_one (ps_for PassesOwn.never rfl (pi_u (pe_go k__law_things (hr.mono (by decide)) rfl F__law_things.g F__law_things.fn.kp F__law_things.b pass0 (pa_cons (pe_go k__law_pen (hr.mono (by decide)) rfl F__law_pen.g F__law_pen.fn.kp F__law_pen.b pass0 (pa_cons (pv 0) (pa_cons (pv 1) pa_nil))) pa_nil))) (pg_name (i := 3) sc_law.nd rfl (.inl rfl)) (pss_cons (ps_set (i := 4) sc_law.nd rfl (.inl rfl) (pe_callB (call_uRep (hr.mono (by decide))) (by rfl) n_repr (by decide +kernel) (pa_cons (pv 3) pa_nil)))
  (pss_cons (ps_if (PW.pt (pw_or (pt_not (pt_tru (pe_go k__law_right (hr.mono (by decide)) rfl F__law_right.g F__law_right.fn.kp F__law_right.b pass0 (pa_cons (pv 3) pa_nil)))) (pw_or (pt_cmpR (op_uNe hr.rm.units) (pe_callB (call_uRep (hr.mono (by decide))) (by rfl) n_repr (by decide +kernel) (pa_cons (pv 3) pa_nil)) (pv 4) (nomark _)) (pw_or1 (pt_not (pt_tru (pe_go k__law_right (hr.mono (by decide)) rfl F__law_right.g F__law_right.fn.kp F__law_right.b pass0 (pa_cons (pv 2) pa_nil)))))))) (pss_one (ps_ret pe_bl)) pss_nil)
  (pss_one (ps_set (i := 2) sc_law.nd rfl (.inl rfl) (pv 3)))))))))
  (pss_one (ps_ret pe_bl)))


local macro_rules | `(tactic| walk_at "hp") => `(tactic| first | assumption | (refine Keep.at (by assumption) ?_ ?_ <;> first | exact nin0 | (refine nin1 ?_; walk_at "ne") | walk_at "hp"))
local macro_rules | `(tactic| walk_at "ne") => `(tactic| first | assumption | (refine Ne.symm ?_; assumption) | exact Tup.neL (by assumption) (by assumption) | exact ne_of_none (by assumption) (by assumption) | exact (ne_of_none (by assumption) (by assumption)).symm)
local macro_rules | `(tactic| walk_at "sx") => `(tactic| try simp only [run, tSeq, tAsg, tIfS, tTest, tOp, tUn, tVar, tC, tRet, tRetN, tDrop, gName, gSub, gCons, gNil, tNext, tCons, tNil, tGo, tCB, tAndT, tOrT, tNotT, tTru, tAnd, tOr, tNot, tChain, tIf, tLstU, tTupU, tSl, tPart, tNoPart, tPar, tBM, tBM0, tDNewU, tDic1,
  List.getElem?_cons_zero, List.getElem?_cons_succ, List.set_cons_zero, List.set_cons_succ, Option.some.injEq, exists_eq_left', exists_eq_left, V.int.injEq, V.bl.injEq, V.str.injEq, V.ref.injEq, true_and, and_true, e_rI, e_rI0, e_rU, e_addI, e_addS, e_mulI, e_abs, e_max2, e_min2, e_str, e_intI, e_intB, e_isN, e_notN, e_truB, e_truI, e_ten6, e_ten18, e_ten60, e_for1, e_for2, e_forU, decide_eq_true_eq, if_true, if_false, ite_true, ite_false, Bool.false_eq_true, Bool.not_true, Bool.not_false, Bool.true_eq_false])
local macro_rules | `(tactic| walk_at "sz") => `(tactic| (first | refine len_le ?_ | refine len_lt ?_ | skip); simp only [List.length_cons, List.length_nil, List.length_append, List.length_map, List.length_replicate, List.length_set]; omega)
/-! ### the draws -/
/-- a pen that k draws may be taken of -/
def Pen (H : Hp) (p : Addr) (k : Nat) : Prop := ∃ d c n : Int, H p = some (.lst [.int d, .int c, .int n]) ∧ 0 ≤ d ∧ 0 ≤ c ∧ c < 2147483629 ∧ 0 ≤ n ∧ n + (k : Int) ≤ 1000000
theorem Pen.less {H : Hp} {p : Addr} {j k : Nat} (h : Pen H p k) (l : j ≤ k) : Pen H p j := by
  obtain ⟨d, c, n, e, h1, h2, h3, h4, h5⟩ := h
  exact ⟨d, c, n, e, h1, h2, h3, h4, by omega⟩
theorem Pen.keep {H H' : Hp} {p : Addr} {k : Nat} (h : Pen H p k) (q : Keep [] H H') : Pen H' p k := by
  obtain ⟨d, c, n, e, r⟩ := h
  exact ⟨d, c, n, q _ _ nin0 e, r⟩
theorem Pen.at {H : Hp} {p : Addr} {k : Nat} (h : Pen H p k) : ∃ xs, H p = some (.lst xs) := by
  obtain ⟨d, c, n, e, r⟩ := h
  exact ⟨_, e⟩
def spDraw : Sp := fun vs H Q _ => ∃ (p : Addr) (b : Int) (k : Nat), vs = [.ref p, .int b] ∧ 0 < b ∧ b < 1073741824 ∧ Pen H p (k + 1) ∧ ∀ r H', 0 ≤ r → r < b → Keep [p] H H' → Pen H' p k → Q (.int r) H'
theorem cmul_small {i j : Int} (h : -(2 ^ 64) < i ∧ i < 2 ^ 64) : CMul i j := .inl h
theorem cmul_right {i j : Int} (h : -(2 ^ 64) < j ∧ j < 2 ^ 64) : CMul i j := .inr h
theorem rd_draw (K : PySem.W.Frag) : ∀ vs H Q E, spDraw vs H Q E → run (t__law_draw K) (L2.start N__law_draw vs) H Q := by
  rintro _ H Q _ ⟨p, b, k, rfl, b0, b1, ⟨d, c, n, hp, d0, c0, c1, n0, nk⟩, q⟩
  show run (t__law_draw K) [some (.ref p), some (.int b), none, none, none] H Q
  unfold t__law_draw
  walk_at "sx"
  refine g_ixL hp (at_lit 0 rfl rfl) ?_
  walk_at "sx"
  by_cases h : 0 < d
  · rw [if_pos h]
    refine g_ixL hp (at_lit 0 rfl rfl) ?_
    walk_at "sx"
    refine ⟨b0, g_ixL hp (at_lit 0 rfl rfl) ?_⟩
    walk_at "sx"
    refine ⟨⟨b0, b1⟩, g_setL hp (k := 0) rfl fun H' k1 hp1 => ?_⟩
    refine q _ _ (Int.emod_nonneg _ (by omega)) (Int.emod_lt_of_pos _ b0) k1 ⟨_, c, n, hp1, Int.ediv_nonneg d0 (by omega), c0, c1, n0, by omega⟩
  · rw [if_neg h]
    unfold t__law_draw_r1
    walk_at "sx"
    refine g_ixL hp (at_lit 2 rfl rfl) ?_
    walk_at "sx"
    refine g_setL hp (k := 2) rfl fun H1 k1 hp1 => ?_
    have hp1' : H1 p = some (.lst [.int d, .int c, .int (n + 1)]) := hp1
    refine g_ixL hp1' (at_lit 2 rfl rfl) (g_ixL hp1' (at_lit 1 rfl rfl) ?_)
    walk_at "sx"
    refine ⟨cmul_right (by decide), cmul_small (by decide), cmul_right (by omega), cmul_small (by decide), by decide, by decide, cmul_right ?_, by decide, cmul_right (by decide), by decide, ⟨by decide, by decide⟩, b0, ?_⟩
    · generalize (c * 40503 + 7919 * (n + 1) * (n + 1) + 104729 * (n + 1)) % 2147483647 = x
      have h1 := Int.emod_nonneg x (show (65003 : Int) ≠ 0 by decide)
      have h2 := Int.emod_lt_of_pos x (show (0 : Int) < 65003 by decide)
      omega
    · refine q _ _ (Int.emod_nonneg _ (by omega)) (Int.emod_lt_of_pos _ b0) k1 ⟨d, c, n + 1, hp1', d0, c0, c1, by omega, by omega⟩

def spPen (K : PySem.W.Frag) : Sp := fun vs H Q _ => ∃ (a : Addr) (k : Int) (ns : List Int), vs = [.ref a, .int k] ∧ SqL K H a (ns.map V.int) ∧ 0 ≤ k ∧ ∀ p H', H p = none → Keep [] H H' → Pen H' p 1000000 → Q (.ref p) H'
theorem rd_pen (K : PySem.W.Frag) : ∀ vs H Q E, spPen K vs H Q E → run (t__law_pen K) (L2.start N__law_pen vs) H Q := by
  rintro _ H Q _ ⟨a, k, ns, rfl, hS, k0, q⟩
  show run (t__law_pen K) [some (.ref a), some (.int k), none, none] H Q
  have fin2 : ∀ cell dg : Int, 0 ≤ dg → t__law_pen_r1 K { nx := fun _ H' => Q .non H', rt := Q } [some (.ref a), some (.int k), some (.int cell), some (.int dg)] H := fun cell dg hd => by
    unfold t__law_pen_r1
    walk_at "sx"
    refine ⟨by decide, by walk_at "sz", fun p H' n kp hp => q p H' n kp ⟨_, _, 0, hp, hd, Int.emod_nonneg _ (by decide), Int.emod_lt_of_pos _ (by decide), by omega, by omega⟩⟩
  have fin : ∀ cell : Int, t__law_pen_r2 K { nx := fun _ H' => Q .non H', rt := Q } [some (.ref a), some (.int k), some (.int cell), none] H := fun cell => by
    unfold t__law_pen_r2
    walk_at "sx"
    refine ⟨⟨by decide, by decide, by decide⟩, ?_⟩
    by_cases h : 1000000000000000000 ≤ if cell < 0 then -cell else cell
    · rw [if_pos h]
      refine fin2 cell _ ?_
      split <;> omega
    · rw [if_neg h]
      exact fin2 cell 0 (by decide)
  unfold t__law_pen
  walk_at "sx"
  refine g_lenQ hS ?_
  walk_at "sx"
  rw [List.length_map]
  by_cases h : k < (ns.length : Int)
  · rw [if_pos h]
    have e : ((ns.map V.int))[k.toNat]? = some (.int ns[k.toNat]) := by
      rw [List.getElem?_map, List.getElem?_eq_getElem (show k.toNat < ns.length by omega)]
      rfl
    exact g_ixQ hS (at_lit k.toNat (by omega) e) (fin _)
  · rw [if_neg h]
    exact fin 0
/-- a whole number of any size that str writes -/
def Far (r : Int) : Prop := r.natAbs < 10 ^ 66
theorem Far.log {r : Int} (h : Far r) : r.natAbs.log2 < 1920 := by
  have h1 : r.natAbs < 2 ^ 220 := Nat.lt_of_lt_of_le h (by decide +kernel)
  exact Nat.lt_of_lt_of_le (PySem.Flt.log2_lt_of (by decide) h1) (by decide)
def spFar : Sp := fun vs H Q _ => ∃ (p : Addr) (k : Nat), vs = [.ref p] ∧ Pen H p (k + 12) ∧ ∀ r H', Far r → Keep [p] H H' → Pen H' p k → Q (.int r) H'
theorem rd_far (K : PySem.W.Frag) : ∀ vs H Q E, spFar vs H Q E → run (t__law_far K spDraw) (L2.start N__law_far vs) H Q := by
  rintro _ H Q _ ⟨p, k, rfl, hp, q⟩
  show run (t__law_far K spDraw) [some (.ref p), none, none] H Q
  unfold t__law_far
  walk_at "sx"
  refine ⟨p, 10, k + 11, rfl, by decide, by decide, hp, fun r H1 r0 r1 k1 hp1 => ?_⟩
  walk_at "sx"
  refine g_FR1 (by omega) (by omega) ⟨fun i σ H' => ∃ (f : Int) (y : Option V), σ = [some (.ref p), some (.int f), y] ∧ 0 ≤ f ∧ f < 10 ^ (6 * i) ∧ Keep [p] H H' ∧ Pen H' p (k + 11 - i), ⟨0, none, rfl, by decide, by decide, k1, hp1⟩, ?_, ?_⟩
  · rintro i σ H2 hi ⟨f, y, rfl, f0, f1, k2, hp2⟩
    unfold t__law_far_b1
    walk_at "sx"
    refine ⟨⟨by decide, by decide, by decide⟩, cmul_right (by decide), ⟨by decide, by decide, by decide⟩, p, _, k + 10 - i, rfl, by decide, by decide, hp2.less (by omega), fun d H3 d0 d1 k3 hp3 => ?_⟩
    walk_at "sx"
    refine ⟨_, _, rfl, ?_, ?_, k2.trans k3, hp3.less (by omega)⟩
    · omega
    · have e2 : (10 : Int) ^ (6 * (i + 1)) = 10 ^ (6 * i) * 1000000 := by
        rw [Nat.mul_add, Int.pow_add]
        rfl
      rw [e2]
      omega
  · rintro σ H2 ⟨f, y, rfl, f0, f1, k2, hp2⟩
    unfold t__law_far_r1
    walk_at "sx"
    refine ⟨p, 2, k, rfl, by decide, by decide, hp2.less (by omega), fun d H3 d0 d1 k3 hp3 => ?_⟩
    walk_at "sx"
    refine ⟨cmul_small (by decide), cmul_right (by omega), q _ _ ?_ (k2.trans k3) hp3⟩
    have h1 : f < 10 ^ 66 := by
      refine Int.lt_of_lt_of_le f1 ?_
      have : 6 * (1 + r).toNat ≤ 66 := by omega
      exact_mod_cast Nat.pow_le_pow_right (show 0 < 10 by decide) this
    have hd : d = 0 ∨ d = 1 := by omega
    unfold Far
    rcases hd with rfl | rfl <;> omega

/-! ### what is within -/
def wh : V → Option Int
  | .int i => some i
  | _ => none
def inR (v : V) (lo hi : Int) : Bool := match v with
  | .int i => decide (lo ≤ i) && decide (i ≤ hi)
  | _ => false
/-- a thing of a kind that isinstance knows -/
inductive Kd (K : PySem.W.Frag) (H : Hp) : V → Prop
  | non : Kd K H .non
  | bl (b : Bool) : Kd K H (.bl b)
  | int (i : Int) : Kd K H (.int i)
  | str (x : Str) : Kd K H (.str x)
  | lst {a : Addr} {xs : List V} : H a = some (.lst xs) → Kd K H (.ref a)
  | tup {a : Addr} {xs : List V} : Tup H a xs → Kd K H (.ref a)
  | dic {a : Addr} {xs : List (Key × V)} : H a = some (.dK xs) → Kd K H (.ref a)
theorem Kd.keep {K : PySem.W.Frag} {H H' : Hp} {v : V} (h : Kd K H v) (k : Keep [] H H') : Kd K H' v := by
  cases h with
  | non => exact .non
  | bl b => exact .bl b
  | int i => exact .int i
  | str x => exact .str x
  | lst e => exact .lst (k _ _ nin0 e)
  | tup e => exact .tup (e.keep k nin0)
  | dic e => exact .dic (k _ _ nin0 e)
def isIntB : V → Bool
  | .int _ => true
  | .bl _ => true
  | _ => false
def isBoolB : V → Bool
  | .bl _ => true
  | _ => false
theorem g_isInt {K : PySem.W.Frag} {H : Hp} {v : V} {Q : VK} (h : Kd K H v) (q : Q (.bl (isIntB v)) H) : rIsi K [v, .ty "int"] H Q := by
  cases h with
  | int i => exact g_isi (.base (.int i)) kit_int_int q
  | bl b => exact g_isi (.base (.bl b)) kit_bool_int q
  | non => exact g_isi (.base .non) kit_none_int q
  | str x => exact g_isi (.base (.str x)) kit_str_int q
  | lst e => exact g_isi (.base (.lst e)) kit_list_int q
  | tup e => exact g_isi (ty_tup e) kit_tuple_int q
  | dic e => exact g_isi (.base (.dK e)) kit_dict_int q
theorem g_isBool {K : PySem.W.Frag} {H : Hp} {v : V} {Q : VK} (h : Kd K H v) (q : Q (.bl (isBoolB v)) H) : rIsi K [v, .ty "bool"] H Q := by
  cases h with
  | int i => exact g_isi (.base (.int i)) kit_int_bool q
  | bl b => exact g_isi (.base (.bl b)) kit_bool_bool q
  | non => exact g_isi (.base .non) kit_none_bool q
  | str x => exact g_isi (.base (.str x)) kit_str_bool q
  | lst e => exact g_isi (.base (.lst e)) kit_list_bool q
  | tup e => exact g_isi (ty_tup e) kit_tuple_bool q
  | dic e => exact g_isi (.base (.dK e)) kit_dict_bool q
def spWhole (K : PySem.W.Frag) : Sp := fun vs H Q _ => ∃ v, vs = [v] ∧ Kd K H v ∧ Q (.bl (wh v).isSome) H
theorem rd_whole (K : PySem.W.Frag) : ∀ vs H Q E, spWhole K vs H Q E → run (t_is_whole K) (L2.start N_is_whole vs) H Q := by
  rintro _ H Q _ ⟨v, rfl, hv, q⟩
  show run (t_is_whole K) [some v] H Q
  unfold t_is_whole
  walk_at "sx"
  refine g_isInt hv ⟨_, rfl, ?_⟩
  have hb := g_isBool (Q := fun x H1 => ∃ k, TruV K x H1 k ∧ Q (V.bl !k) H1) hv
  cases v with
  | int i => exact hb ⟨_, rfl, q⟩
  | bl i => exact hb ⟨_, rfl, q⟩
  | _ => exact q
def spWithin (K : PySem.W.Frag) : Sp := fun vs H Q _ => ∃ v lo hi, vs = [v, .int lo, .int hi] ∧ Kd K H v ∧ Q (.bl (inR v lo hi)) H
theorem rd_within (K : PySem.W.Frag) : ∀ vs H Q E, spWithin K vs H Q E → run (t_is_within K (spWhole K)) (L2.start N_is_within vs) H Q := by
  rintro _ H Q _ ⟨v, lo, hi, rfl, hv, q⟩
  show run (t_is_within K (spWhole K)) [some v, some (.int lo), some (.int hi)] H Q
  unfold t_is_within
  walk_at "sx"
  refine ⟨v, rfl, hv, ?_⟩
  walk_at "sx"
  cases v with
  | int i =>
    simp only [wh, Option.isSome_some, if_true]
    walk_at "sx"
    by_cases h : lo ≤ i <;> simpa [h, inR, e_rI0] using q
  | _ => exact q
def spRange (lo hi : Int) (K : PySem.W.Frag) : Sp := fun vs H Q _ => ∃ v, vs = [v] ∧ Kd K H v ∧ Q (.bl (inR v lo hi)) H
theorem rd_moment (K : PySem.W.Frag) : ∀ vs H Q E, spRange 0 1000000 K vs H Q E → run (t_is_moment K (spWithin K)) (L2.start N_is_moment vs) H Q := by
  rintro _ H Q _ ⟨v, rfl, hv, q⟩
  show run (t_is_moment K (spWithin K)) [some v] H Q
  unfold t_is_moment
  walk_at "sx"
  exact ⟨v, 0, 1000000, rfl, hv, q⟩
theorem rd_grade (K : PySem.W.Frag) : ∀ vs H Q E, spRange 1 5 K vs H Q E → run (t_is_grade K (spWithin K)) (L2.start N_is_grade vs) H Q := by
  rintro _ H Q _ ⟨v, rfl, hv, q⟩
  show run (t_is_grade K (spWithin K)) [some v] H Q
  unfold t_is_grade
  walk_at "sx"
  exact ⟨v, 1, 5, rfl, hv, q⟩
theorem rd_is (K : PySem.W.Frag) : ∀ vs H Q E, spWithin K vs H Q E → run (t__law_is K) (L2.start N__law_is vs) H Q := by
  rintro _ H Q _ ⟨v, lo, hi, rfl, hv, q⟩
  show run (t__law_is K) [some v, some (.int lo), some (.int hi)] H Q
  unfold t__law_is
  walk_at "sx"
  refine g_isInt hv ⟨_, rfl, ?_⟩
  cases v with
  | int i =>
    refine iteT (g_isBool hv ⟨_, rfl, iteT ?_⟩)
    walk_at "sx"
    by_cases h : lo ≤ i <;> simpa [h, inR, e_rI0] using q
  | bl i => exact iteT (g_isBool hv ⟨_, rfl, iteF q⟩)
  | _ => exact q
def spRight (K : PySem.W.Frag) : Sp := fun vs H Q _ => ∃ v, vs = [v] ∧ Kd K H v ∧ ∀ H', Keep [] H H' → Q (.bl true) H'
theorem dp_bools {K : PySem.W.Frag} {H : Hp} {a : Addr} {x y : Bool} (h : H a = some (.lst [.bl x, .bl y])) : Th K H (.ref a) (.list [.bool x, .bool y]) :=
  .dp (.lst (lst_sq h) (.cons (.bl _) (.cons (.bl _) .nil))) ⟨trivial, trivial, trivial⟩ (by simp [cost, costs]) (by simp [PyData.depth, PyData.depthAll])
theorem rd_right (K : PySem.W.Frag) : ∀ vs H Q E, spRight K vs H Q E → run (t__law_right K (spWithin K) (spRange 1 5 K) (spRange 0 1000000 K)) (L2.start N__law_right vs) H Q := by
  rintro _ H Q _ ⟨v, rfl, hv, q⟩
  show run (t__law_right K (spWithin K) (spRange 1 5 K) (spRange 0 1000000 K)) [some v, none] H Q
  unfold t__law_right
  walk_at "sx"
  refine ⟨⟨by decide, by decide, by decide⟩, v, 0, _, rfl, hv, ?_⟩
  walk_at "sx"
  refine ⟨v, 1, 5, rfl, hv, ?_⟩
  walk_at "sx"
  refine ⟨by walk_at "sz", fun a H1 n1 k1 e1 => ?_⟩
  walk_at "sx"
  refine ⟨v, rfl, hv.keep k1, ?_⟩
  walk_at "sx"
  refine ⟨v, rfl, hv.keep k1, ?_⟩
  walk_at "sx"
  refine ⟨by walk_at "sz", fun b H2 n2 k2 e2 => ?_⟩
  walk_at "sx"
  refine g_rep (dp_bools e2) ?_
  walk_at "sx"
  refine g_rep (dp_bools (k2 _ _ nin0 e1)) (g_eq rfl ?_)
  rw [decide_eq_true rfl]
  exact q _ (k1.trans k2)

/-- one of the things of the law -/
def Item (K : PySem.W.Frag) (H : Hp) (v : V) : Prop := Kd K H v ∧ ∃ d, Th K H v d
theorem Item.keep {K : PySem.W.Frag} {H H' : Hp} {v : V} (h : Item K H v) (k : Keep [] H H') : Item K H' v := ⟨h.1.keep k, let ⟨d, t⟩ := h.2; ⟨d, t.keep k⟩⟩
theorem item_int {K : PySem.W.Frag} {H : Hp} {i : Int} (h : Far i) : Item K H (.int i) := ⟨.int i, _, .dp (.int i) h.log (by simp [cost]) (by simp [PyData.depth])⟩
def spThings (K : PySem.W.Frag) : Sp := fun vs H Q _ => ∃ p : Addr, vs = [.ref p] ∧ Pen H p 100 ∧ ∀ l H' xs, H' l = some (.lst xs) → (∀ v ∈ xs, Item K H' v) → Keep [p] H H' → Q (.ref l) H'
theorem far_of {i : Int} (h : i.natAbs ≤ 10000000) : Far i := Nat.lt_of_le_of_lt h (by decide +kernel)
theorem far_60 : Far ((10 : Int) ^ 60 - 1) ∧ Far (1 - (10 : Int) ^ 60) := by constructor <;> (unfold Far; decide +kernel)
theorem at_in {xs : List V} {i : Int} (h0 : 0 ≤ i) (h1 : i < xs.length) : ∃ v, atI xs i = some v ∧ v ∈ xs := by
  have hl : i.toNat < xs.length := by omega
  exact ⟨xs[i.toNat], at_lit i.toNat (by omega) (List.getElem?_eq_getElem hl), List.getElem_mem hl⟩
theorem item_keep {K : PySem.W.Frag} {H H' : Hp} {xs : List V} (k : Keep [] H H') (h : ∀ v ∈ xs, Item K H v) : ∀ v ∈ xs, Item K H' v := fun v hv => (h v hv).keep k
theorem items_app {K : PySem.W.Frag} {H : Hp} {xs ys : List V} (h : ∀ v ∈ xs, Item K H v) (h' : ∀ v ∈ ys, Item K H v) : ∀ v ∈ xs ++ ys, Item K H v := fun v hv => (List.mem_append.mp hv).elim (h v) (h' v)
theorem items_nil {K : PySem.W.Frag} {H : Hp} : ∀ v ∈ ([] : List V), Item K H v := fun v hv => (List.not_mem_nil hv).elim
theorem items_cons {K : PySem.W.Frag} {H : Hp} {x : V} {xs : List V} (h : Item K H x) (h' : ∀ v ∈ xs, Item K H v) : ∀ v ∈ x :: xs, Item K H v := fun v hv => by
  rcases List.mem_cons.mp hv with rfl | hv
  · exact h
  · exact h' v hv
theorem signs_any (s : String) : signsOk (Str.ofString s) := by
  intro c hc
  rw [PyProof.Rows.signs_ofString] at hc
  obtain ⟨ch, _, rfl⟩ := List.mem_map.mp hc
  exact Nat.lt_of_lt_of_le (UInt32.toNat_lt ch.val) (by decide)
theorem rd_things (K : PySem.W.Frag) : ∀ vs H Q E, spThings K vs H Q E → run (t__law_things K spDraw spFar) (L2.start N__law_things vs) H Q := by
  rintro _ H Q _ ⟨p, rfl, hp, q⟩
  show run (t__law_things K spDraw spFar) [some (.ref p), none, none, none] H Q
  unfold t__law_things
  walk_at "sx"
  refine ⟨p, 3, 99, rfl, by decide, by decide, hp, fun r1 H1 a0 a1 k1 hp1 => ?_⟩
  walk_at "sx"
  refine ⟨⟨by decide, by decide, by decide⟩, ⟨by decide, by decide, by decide⟩, p, _, 98, rfl, by decide, by decide, hp1.less (by decide), fun r2 H2 b0 b1 k2 hp2 => ?_⟩
  walk_at "sx"
  refine ⟨by walk_at "sz", fun l1 H3 n3 k3 e3 => ?_⟩
  walk_at "sx"
  refine ⟨p, 80, rfl, (hp2.keep k3).less (by decide), fun r3 H4 f3 k4 hp4 => ?_⟩
  walk_at "sx"
  refine ⟨p, 7, 79, rfl, by decide, by decide, hp4.less (by decide), fun r4 H5 c0 c1 k5 hp5 => ?_⟩
  walk_at "sx"
  obtain ⟨pxs, epx⟩ := hp2.at
  have nl : l1 ≠ p := (ne_of_none epx n3).symm
  refine ⟨by walk_at "sz", fun l2 H6 n6 k6 e6 => ?_⟩
  walk_at "sx"
  refine g_addL (xs := [.int (r1 - 1), .int (1000000 + (r1 - 1)), .int (5 + (r1 - 1)), .int r2]) (by walk_at "hp") e6 (by walk_at "sz") fun l3 H7 n7 k7 e7 => ?_
  walk_at "sx"
  have hp7 : Pen H7 p 79 := (hp5.keep k6).keep k7
  obtain ⟨pys, epy⟩ := hp5.at
  have nl3 : l3 ≠ p := (ne_of_none (k6 _ _ nin0 epy) n7).symm
  refine ⟨p, 6, 78, rfl, by decide, by decide, hp7, fun r5 H8 g0 g1 k8 hp8 => ?_⟩
  have e8 := k8 _ _ (nin1 nl3) e7
  have allI : ∀ v ∈ [V.int (r1 - 1), V.int (1000000 + (r1 - 1)), V.int (5 + (r1 - 1)), V.int r2] ++ [V.int r3, V.int r4], ∃ r, v = .int r ∧ Far r := by
    intro v hv
    simp only [List.cons_append, List.nil_append, List.mem_cons, List.not_mem_nil, or_false] at hv
    rcases hv with rfl | rfl | rfl | rfl | rfl | rfl
    · exact ⟨_, rfl, far_of (by omega)⟩
    · exact ⟨_, rfl, far_of (by omega)⟩
    · exact ⟨_, rfl, far_of (by omega)⟩
    · exact ⟨_, rfl, far_of (by omega)⟩
    · exact ⟨_, rfl, f3⟩
    · exact ⟨_, rfl, far_of (by omega)⟩
  obtain ⟨w, ew, mw⟩ := at_in (xs := [V.int (r1 - 1), V.int (1000000 + (r1 - 1)), V.int (5 + (r1 - 1)), V.int r2] ++ [V.int r3, V.int r4]) g0 g1
  obtain ⟨one, rfl, hone⟩ := allI w mw
  refine g_ixL e8 ew ?_
  walk_at "sx"
  refine ⟨⟨by decide, by decide, by decide⟩, ⟨by decide, by decide, by decide⟩, ⟨by decide, by decide, by decide⟩, ⟨by decide, by decide, by decide⟩, by walk_at "sz", fun l4 H9 n9 k9 e9 => ?_⟩
  walk_at "sx"
  refine g_addL (k9 _ _ nin0 e8) e9 (by walk_at "sz") fun l5 H10 n10 k10 e10 => ?_
  walk_at "sx"
  refine ⟨hone.log, by walk_at "sz", fun l6 H11 n11 k11 e11 => ?_⟩
  walk_at "sx"
  refine ⟨by walk_at "sz", fun l7 H12 n12 k12 e12 => ?_⟩
  walk_at "sx"
  refine ⟨.inl one, rfl, fun l8 H13 n13 k13 e13 => ?_⟩
  walk_at "sx"
  refine ⟨by walk_at "sz", fun l9 H14 n14 k14 e14 => ?_⟩
  walk_at "sx"
  have q10 : Keep [] H10 H14 := k11.trans (k12.trans (k13.trans k14))
  refine g_addL (q10 _ _ nin0 e10) e14 (by walk_at "sz") fun l10 H15 n15 k15 e15 => ?_
  walk_at "sx"
  refine ⟨by walk_at "sz", fun l11 H16 n16 k16 e16 => ?_⟩
  walk_at "sx"
  refine ⟨by walk_at "sz", fun l12 H17 n17 k17 e17 => ?_⟩
  walk_at "sx"
  refine fun l13 H18 n18 k18 e18 => ?_
  walk_at "sx"
  refine ⟨by walk_at "sz", fun l14 H19 n19 k19 e19 => ?_⟩
  walk_at "sx"
  have q15 : Keep [] H15 H19 := k16.trans (k17.trans (k18.trans k19))
  refine g_addL (q15 _ _ nin0 e15) e19 (by walk_at "sz") fun l15 H20 n20 k20 e20 => ?_
  refine q _ _ _ e20 ?_ ?_
  · have q14 : Keep [] H14 H20 := k15.trans (q15.trans k20)
    have q13 : Keep [] H13 H20 := k14.trans q14
    have q12 : Keep [] H12 H20 := k13.trans q13
    have q11 : Keep [] H11 H20 := k12.trans q12
    have q19 : Keep [] H19 H20 := k20
    have q18 : Keep [] H18 H20 := k19.trans q19
    have q17 : Keep [] H17 H20 := k18.trans q18
    have q16 : Keep [] H16 H20 := k17.trans q17
    refine items_app (items_app (items_app (fun v hv => ?_) ?_) ?_) ?_
    · obtain ⟨r, rfl, hr⟩ := allI v hv
      exact item_int hr
    · refine items_cons (item_int (far_of (by decide))) (items_cons (item_int (far_of (by decide))) (items_cons (item_int (far_of (by decide))) (items_cons (item_int (far_of (by decide))) (items_cons (item_int (far_of (by decide))) (items_cons (item_int (far_of (by decide))) (items_cons (item_int (far_of (by decide))) (items_cons (item_int far_60.1) (items_cons (item_int far_60.2) items_nil))))))))
    · refine items_cons ⟨.bl _, _, .dp (.bl _) trivial (by simp [cost]) (by simp [PyData.depth])⟩ (items_cons ⟨.bl _, _, .dp (.bl _) trivial (by simp [cost]) (by simp [PyData.depth])⟩ (items_cons ⟨.non, _, .dp .non trivial (by simp [cost]) (by simp [PyData.depth])⟩ (items_cons ?_ (items_cons ?_ (items_cons ?_ (items_cons ?_ (items_cons ?_ items_nil)))))))
      · refine ⟨.str _, _, .dp (.str _) (signs_any _) ?_ (by simp [PyData.depth])⟩
        simp only [cost]
        have := int_text_length_le (k := 1920) (by decide) hone.log
        rw [PySem.ofString_length]
        omega
      · exact ⟨.str _, _, .dp (.str _) (signs_any _) (by simp only [cost]; decide) (by simp [PyData.depth])⟩
      · exact ⟨.lst (q11 _ _ nin0 e11), _, .dp (.lst (lst_sq (q11 _ _ nin0 e11)) (.cons (.int _) .nil)) ⟨hone.log, trivial⟩ (by simp [cost, costs]) (by simp [PyData.depth, PyData.depthAll])⟩
      · exact ⟨.tup (e12.keep q12 nin0), _, .dp (.tup (e12.keep q12 nin0).sq (.cons (.int _) .nil)) ⟨hone.log, trivial⟩ (by simp [cost, costs]) (by simp [PyData.depth, PyData.depthAll])⟩
      · exact ⟨.dic (q13 _ _ nin0 e13), _, .dic (ds := [.int one]) (q13 _ _ nin0 e13) (.cons (.int _) .nil) ⟨hone.log, hone.log, trivial⟩ (by simp [cost, costKv, keyD]) (by simp [PyData.depth, PyData.depthKv, keyD])⟩
    · refine items_cons ?_ (items_cons ?_ (items_cons ?_ (items_cons ?_ items_nil)))
      · exact ⟨.lst (q16 _ _ nin0 e16), _, .dp (.lst (lst_sq (q16 _ _ nin0 e16)) .nil) trivial (by simp [cost, costs]) (by simp [PyData.depth, PyData.depthAll])⟩
      · exact ⟨.tup (e17.keep q17 nin0), _, .dp (.tup (e17.keep q17 nin0).sq .nil) trivial (by simp [cost, costs]) (by simp [PyData.depth, PyData.depthAll])⟩
      · exact ⟨.dic (q18 _ _ nin0 e18), _, .dic (ds := []) (q18 _ _ nin0 e18) .nil trivial (by simp [cost, costKv]) (by simp [PyData.depth, PyData.depthKv])⟩
      · exact ⟨.str _, _, .dp (.str _) (signs_any _) (by simp only [cost]; decide +kernel) (by simp [PyData.depth])⟩
  · have z : Keep [p] H5 H20 := (k6.all (S := [p])).trans (k7.all.trans (k8.trans (k9.all.trans (k10.all.trans (q10.all.trans (k15.all.trans (q15.all.trans k20.all)))))))
    exact k1.trans (k2.trans (k3.all.trans (k4.trans (k5.trans z))))

def spLaw (K : PySem.W.Frag) : Sp := fun vs H Q _ => ∃ (a : Addr) (ns : List Int), vs = [.ref a] ∧ Scr K H a (ns.map V.int) ∧ ns.length ≤ 63 ∧ ∀ H', Q (.bl true) H'
theorem rd_law (K : PySem.W.Frag) : ∀ vs H Q E, spLaw K vs H Q E → run (t_law K (spThings K) (spPen K) (spRight K)) (L2.start N_law vs) H Q := by
  rintro _ H Q _ ⟨a, ns, rfl, hS, hl, q⟩
  show run (t_law K (spThings K) (spPen K) (spRight K)) [some (.ref a), none, none, none, none] H Q
  unfold t_law
  walk_at "sx"
  refine g_lenQ hS.sq ?_
  walk_at "sx"
  rw [List.length_map]
  refine g_FR1 (by split <;> split <;> omega) (by split <;> split <;> omega) ⟨fun i σ H' => ∃ x1 x2 x3 x4, σ = [some (.ref a), x1, x2, x3, x4] ∧ Scr K H' a (ns.map V.int), ⟨_, _, _, _, rfl, hS⟩, ?_, ?_⟩
  · rintro i σ H1 hi ⟨x1, x2, x3, x4, rfl, hS1⟩
    unfold t_law_b2
    walk_at "sx"
    refine ⟨a, _, ns, rfl, hS1.sq, Int.natCast_nonneg i, fun p H2 n2 k2 hp => ?_⟩
    walk_at "sx"
    refine ⟨p, rfl, hp.less (by decide), fun l H3 xs e3 it k3 => ?_⟩
    have hS3 : Scr K H3 a (ns.map V.int) := hS1.past n2 k2 k3
    refine g_FL (fun j σ H' => ∃ v x3 x4, σ = [some (.ref a), some (.int (i : Nat)), some v, x3, x4] ∧ Item K H' v ∧ Keep [] H3 H') (lst_sq e3) ⟨_, _, _, rfl, ⟨.non, _, .dp .non trivial (by simp [cost]) (by simp [PyData.depth])⟩, Keep.refl _ _⟩ ?_ ?_ ?_
    · rintro j σ H' _ ⟨v, y3, y4, rfl, _, k4⟩
      exact lst_sq (k4 _ _ nin0 e3)
    · rintro j x σ H4 hx ⟨v, y3, y4, rfl, hv, k4⟩
      have hxi : Item K H4 x := (it x (List.mem_of_getElem? hx)).keep k4
      obtain ⟨kx, d, tx⟩ := hxi
      unfold t_law_b1
      walk_at "sx"
      refine g_rep tx ?_
      walk_at "sx"
      refine ⟨x, rfl, kx, fun H5 k5 => ?_⟩
      walk_at "sx"
      refine g_rep (tx.keep k5) (g_ne rfl ?_)
      rw [decide_eq_true rfl]
      walk_at "sx"
      refine ⟨v, rfl, hv.1.keep k5, fun H6 k6 => ?_⟩
      unfold t_law_r1
      walk_at "sx"
      exact ⟨x, _, _, rfl, Item.keep (H := H4) ⟨kx, d, tx⟩ (k5.trans k6), k4.trans (k5.trans k6)⟩
    · rintro σ H4 ⟨v, y3, y4, rfl, hv, k4⟩
      exact ⟨_, _, _, _, rfl, hS3.keep0 k4⟩
  · rintro σ H1 ⟨x1, x2, x3, x4, rfl, hS1⟩
    walk_at "sx"
    exact q H1

theorem all_mk {P : Program} {w : World} {K : PySem.W.Frag} {h : Heap} {mg : Str → Option Value} {fa : Addr} (X : K.In h) (G : h.Ns mainGlobals mg) (hfa : mg "law" = some (.ref fa))
    {a_is_whole : Addr} {od_is_whole an_is_whole : Option Addr} {sl_is_whole : Array (Option Value)} {oc_is_whole kV_is_whole dc_is_whole pm_is_whole cd_is_whole ct_is_whole : Value}
    (ad_is_whole : PySem.W.nsIn K mainGlobals "is_whole" = some (some (.ref a_is_whole)))
    (lo_is_whole : K.lookup a_is_whole = some ⟨oc_is_whole, od_is_whole, .func (PySem.W.fnOf "is_whole" "is_whole" (defArgs s_is_whole_) (defBody s_is_whole_) (defScope s_is_whole_) .none kV_is_whole dc_is_whole pm_is_whole an_is_whole cd_is_whole ct_is_whole), sl_is_whole⟩)
    (co_is_whole : PySem.W.codeIn K cd_is_whole "is_whole" = true) (kp_is_whole : PySem.W.keepIn K (.ref a_is_whole) = true)
    {a_is_within : Addr} {od_is_within an_is_within : Option Addr} {sl_is_within : Array (Option Value)} {oc_is_within kV_is_within dc_is_within pm_is_within cd_is_within ct_is_within : Value}
    (ad_is_within : PySem.W.nsIn K mainGlobals "is_within" = some (some (.ref a_is_within)))
    (lo_is_within : K.lookup a_is_within = some ⟨oc_is_within, od_is_within, .func (PySem.W.fnOf "is_within" "is_within" (defArgs s_is_within_) (defBody s_is_within_) (defScope s_is_within_) .none kV_is_within dc_is_within pm_is_within an_is_within cd_is_within ct_is_within), sl_is_within⟩)
    (co_is_within : PySem.W.codeIn K cd_is_within "is_within" = true) (kp_is_within : PySem.W.keepIn K (.ref a_is_within) = true)
    {a_is_moment : Addr} {od_is_moment an_is_moment : Option Addr} {sl_is_moment : Array (Option Value)} {oc_is_moment kV_is_moment dc_is_moment pm_is_moment cd_is_moment ct_is_moment : Value}
    (ad_is_moment : PySem.W.nsIn K mainGlobals "is_moment" = some (some (.ref a_is_moment)))
    (lo_is_moment : K.lookup a_is_moment = some ⟨oc_is_moment, od_is_moment, .func (PySem.W.fnOf "is_moment" "is_moment" (defArgs s_is_moment_) (defBody s_is_moment_) (defScope s_is_moment_) .none kV_is_moment dc_is_moment pm_is_moment an_is_moment cd_is_moment ct_is_moment), sl_is_moment⟩)
    (co_is_moment : PySem.W.codeIn K cd_is_moment "is_moment" = true) (kp_is_moment : PySem.W.keepIn K (.ref a_is_moment) = true)
    {a_is_grade : Addr} {od_is_grade an_is_grade : Option Addr} {sl_is_grade : Array (Option Value)} {oc_is_grade kV_is_grade dc_is_grade pm_is_grade cd_is_grade ct_is_grade : Value}
    (ad_is_grade : PySem.W.nsIn K mainGlobals "is_grade" = some (some (.ref a_is_grade)))
    (lo_is_grade : K.lookup a_is_grade = some ⟨oc_is_grade, od_is_grade, .func (PySem.W.fnOf "is_grade" "is_grade" (defArgs s_is_grade_) (defBody s_is_grade_) (defScope s_is_grade_) .none kV_is_grade dc_is_grade pm_is_grade an_is_grade cd_is_grade ct_is_grade), sl_is_grade⟩)
    (co_is_grade : PySem.W.codeIn K cd_is_grade "is_grade" = true) (kp_is_grade : PySem.W.keepIn K (.ref a_is_grade) = true)
    {a__law_pen : Addr} {od__law_pen an__law_pen : Option Addr} {sl__law_pen : Array (Option Value)} {oc__law_pen kV__law_pen dc__law_pen pm__law_pen cd__law_pen ct__law_pen : Value}
    (ad__law_pen : PySem.W.nsIn K mainGlobals "_law_pen" = some (some (.ref a__law_pen)))
    (lo__law_pen : K.lookup a__law_pen = some ⟨oc__law_pen, od__law_pen, .func (PySem.W.fnOf "_law_pen" "_law_pen" (defArgs s__law_pen_) (defBody s__law_pen_) (defScope s__law_pen_) .none kV__law_pen dc__law_pen pm__law_pen an__law_pen cd__law_pen ct__law_pen), sl__law_pen⟩)
    (co__law_pen : PySem.W.codeIn K cd__law_pen "_law_pen" = true) (kp__law_pen : PySem.W.keepIn K (.ref a__law_pen) = true)
    {a__law_draw : Addr} {od__law_draw an__law_draw : Option Addr} {sl__law_draw : Array (Option Value)} {oc__law_draw kV__law_draw dc__law_draw pm__law_draw cd__law_draw ct__law_draw : Value}
    (ad__law_draw : PySem.W.nsIn K mainGlobals "_law_draw" = some (some (.ref a__law_draw)))
    (lo__law_draw : K.lookup a__law_draw = some ⟨oc__law_draw, od__law_draw, .func (PySem.W.fnOf "_law_draw" "_law_draw" (defArgs s__law_draw_) (defBody s__law_draw_) (defScope s__law_draw_) .none kV__law_draw dc__law_draw pm__law_draw an__law_draw cd__law_draw ct__law_draw), sl__law_draw⟩)
    (co__law_draw : PySem.W.codeIn K cd__law_draw "_law_draw" = true) (kp__law_draw : PySem.W.keepIn K (.ref a__law_draw) = true)
    {a__law_far : Addr} {od__law_far an__law_far : Option Addr} {sl__law_far : Array (Option Value)} {oc__law_far kV__law_far dc__law_far pm__law_far cd__law_far ct__law_far : Value}
    (ad__law_far : PySem.W.nsIn K mainGlobals "_law_far" = some (some (.ref a__law_far)))
    (lo__law_far : K.lookup a__law_far = some ⟨oc__law_far, od__law_far, .func (PySem.W.fnOf "_law_far" "_law_far" (defArgs s__law_far_) (defBody s__law_far_) (defScope s__law_far_) .none kV__law_far dc__law_far pm__law_far an__law_far cd__law_far ct__law_far), sl__law_far⟩)
    (co__law_far : PySem.W.codeIn K cd__law_far "_law_far" = true) (kp__law_far : PySem.W.keepIn K (.ref a__law_far) = true)
    {a__law_things : Addr} {od__law_things an__law_things : Option Addr} {sl__law_things : Array (Option Value)} {oc__law_things kV__law_things dc__law_things pm__law_things cd__law_things ct__law_things : Value}
    (ad__law_things : PySem.W.nsIn K mainGlobals "_law_things" = some (some (.ref a__law_things)))
    (lo__law_things : K.lookup a__law_things = some ⟨oc__law_things, od__law_things, .func (PySem.W.fnOf "_law_things" "_law_things" (defArgs s__law_things_) (defBody s__law_things_) (defScope s__law_things_) .none kV__law_things dc__law_things pm__law_things an__law_things cd__law_things ct__law_things), sl__law_things⟩)
    (co__law_things : PySem.W.codeIn K cd__law_things "_law_things" = true) (kp__law_things : PySem.W.keepIn K (.ref a__law_things) = true)
    {a__law_is : Addr} {od__law_is an__law_is : Option Addr} {sl__law_is : Array (Option Value)} {oc__law_is kV__law_is dc__law_is pm__law_is cd__law_is ct__law_is : Value}
    (ad__law_is : PySem.W.nsIn K mainGlobals "_law_is" = some (some (.ref a__law_is)))
    (lo__law_is : K.lookup a__law_is = some ⟨oc__law_is, od__law_is, .func (PySem.W.fnOf "_law_is" "_law_is" (defArgs s__law_is_) (defBody s__law_is_) (defScope s__law_is_) .none kV__law_is dc__law_is pm__law_is an__law_is cd__law_is ct__law_is), sl__law_is⟩)
    (co__law_is : PySem.W.codeIn K cd__law_is "_law_is" = true) (kp__law_is : PySem.W.keepIn K (.ref a__law_is) = true)
    {a__law_right : Addr} {od__law_right an__law_right : Option Addr} {sl__law_right : Array (Option Value)} {oc__law_right kV__law_right dc__law_right pm__law_right cd__law_right ct__law_right : Value}
    (ad__law_right : PySem.W.nsIn K mainGlobals "_law_right" = some (some (.ref a__law_right)))
    (lo__law_right : K.lookup a__law_right = some ⟨oc__law_right, od__law_right, .func (PySem.W.fnOf "_law_right" "_law_right" (defArgs s__law_right_) (defBody s__law_right_) (defScope s__law_right_) .none kV__law_right dc__law_right pm__law_right an__law_right cd__law_right ct__law_right), sl__law_right⟩)
    (co__law_right : PySem.W.codeIn K cd__law_right "_law_right" = true) (kp__law_right : PySem.W.keepIn K (.ref a__law_right) = true)
    {a_law : Addr} {od_law an_law : Option Addr} {sl_law : Array (Option Value)} {oc_law kV_law dc_law pm_law cd_law ct_law : Value}
    (ad_law : PySem.W.nsIn K mainGlobals "law" = some (some (.ref a_law)))
    (lo_law : K.lookup a_law = some ⟨oc_law, od_law, .func (PySem.W.fnOf "law" "law" (defArgs s_law_) (defBody s_law_) (defScope s_law_) .none kV_law dc_law pm_law an_law cd_law ct_law), sl_law⟩)
    (co_law : PySem.W.codeIn K cd_law "law" = true) (kp_law : PySem.W.keepIn K (.ref a_law) = true)
    {tk_LAST_MOMENT : Tok} (cn_LAST_MOMENT : PySem.W.nsIn K mainGlobals "LAST_MOMENT" = some (some (.int 1000000 tk_LAST_MOMENT)))
    {tk_LAST_GRADE : Tok} (cn_LAST_GRADE : PySem.W.nsIn K mainGlobals "LAST_GRADE" = some (some (.int 5 tk_LAST_GRADE)))
    (no_isinstance : PySem.W.nsIn K mainGlobals "isinstance" = some none)
    (no_int : PySem.W.nsIn K mainGlobals "int" = some none)
    (no_bool : PySem.W.nsIn K mainGlobals "bool" = some none)
    (no_len : PySem.W.nsIn K mainGlobals "len" = some none)
    (no_abs : PySem.W.nsIn K mainGlobals "abs" = some none)
    (no_range : PySem.W.nsIn K mainGlobals "range" = some none)
    (no_str : PySem.W.nsIn K mainGlobals "str" = some none)
    (no_repr : PySem.W.nsIn K mainGlobals "repr" = some none)
    (no_max : PySem.W.nsIn K mainGlobals "max" = some none)
    (no_min : PySem.W.nsIn K mainGlobals "min" = some none)
    : ∃ fd : FuncData, (∀ (s : Shared) (u : Value), BindsTo s fd ⟨[u], []⟩ [("script", u)]) ∧ ∀ b : Heap, K.In b → b.Ns mainGlobals mg → Keeps P w K mg b CX0 6 fa fd ["script"] (spLaw K) := by
  have e := hfa.symm.trans (PySem.W.mg_of X G ad_law)
  cases e
  have f_is_whole := fun_mk (st := s_is_whole_) lo_is_whole co_is_whole kp_is_whole
  have F_is_whole : Fn K mg "is_whole" s_is_whole_ _ _ ["thing"] := ⟨f_is_whole, PySem.W.mg_of X G ad_is_whole, f_is_whole.binds (ps := ["thing"]) fun _ _ _ _ _ _ us hl => match us, hl with | [_], _ => rfl⟩
  have f_is_within := fun_mk (st := s_is_within_) lo_is_within co_is_within kp_is_within
  have F_is_within : Fn K mg "is_within" s_is_within_ _ _ ["thing", "least", "most"] := ⟨f_is_within, PySem.W.mg_of X G ad_is_within, f_is_within.binds (ps := ["thing", "least", "most"]) fun _ _ _ _ _ _ us hl => match us, hl with | [_, _, _], _ => rfl⟩
  have f_is_moment := fun_mk (st := s_is_moment_) lo_is_moment co_is_moment kp_is_moment
  have F_is_moment : Fn K mg "is_moment" s_is_moment_ _ _ ["thing"] := ⟨f_is_moment, PySem.W.mg_of X G ad_is_moment, f_is_moment.binds (ps := ["thing"]) fun _ _ _ _ _ _ us hl => match us, hl with | [_], _ => rfl⟩
  have f_is_grade := fun_mk (st := s_is_grade_) lo_is_grade co_is_grade kp_is_grade
  have F_is_grade : Fn K mg "is_grade" s_is_grade_ _ _ ["thing"] := ⟨f_is_grade, PySem.W.mg_of X G ad_is_grade, f_is_grade.binds (ps := ["thing"]) fun _ _ _ _ _ _ us hl => match us, hl with | [_], _ => rfl⟩
  have f__law_pen := fun_mk (st := s__law_pen_) lo__law_pen co__law_pen kp__law_pen
  have F__law_pen : Fn K mg "_law_pen" s__law_pen_ _ _ ["script", "k"] := ⟨f__law_pen, PySem.W.mg_of X G ad__law_pen, f__law_pen.binds (ps := ["script", "k"]) fun _ _ _ _ _ _ us hl => match us, hl with | [_, _], _ => rfl⟩
  have f__law_draw := fun_mk (st := s__law_draw_) lo__law_draw co__law_draw kp__law_draw
  have F__law_draw : Fn K mg "_law_draw" s__law_draw_ _ _ ["pen", "base"] := ⟨f__law_draw, PySem.W.mg_of X G ad__law_draw, f__law_draw.binds (ps := ["pen", "base"]) fun _ _ _ _ _ _ us hl => match us, hl with | [_, _], _ => rfl⟩
  have f__law_far := fun_mk (st := s__law_far_) lo__law_far co__law_far kp__law_far
  have F__law_far : Fn K mg "_law_far" s__law_far_ _ _ ["pen"] := ⟨f__law_far, PySem.W.mg_of X G ad__law_far, f__law_far.binds (ps := ["pen"]) fun _ _ _ _ _ _ us hl => match us, hl with | [_], _ => rfl⟩
  have f__law_things := fun_mk (st := s__law_things_) lo__law_things co__law_things kp__law_things
  have F__law_things : Fn K mg "_law_things" s__law_things_ _ _ ["pen"] := ⟨f__law_things, PySem.W.mg_of X G ad__law_things, f__law_things.binds (ps := ["pen"]) fun _ _ _ _ _ _ us hl => match us, hl with | [_], _ => rfl⟩
  have f__law_is := fun_mk (st := s__law_is_) lo__law_is co__law_is kp__law_is
  have F__law_is : Fn K mg "_law_is" s__law_is_ _ _ ["thing", "least", "most"] := ⟨f__law_is, PySem.W.mg_of X G ad__law_is, f__law_is.binds (ps := ["thing", "least", "most"]) fun _ _ _ _ _ _ us hl => match us, hl with | [_, _, _], _ => rfl⟩
  have f__law_right := fun_mk (st := s__law_right_) lo__law_right co__law_right kp__law_right
  have F__law_right : Fn K mg "_law_right" s__law_right_ _ _ ["thing"] := ⟨f__law_right, PySem.W.mg_of X G ad__law_right, f__law_right.binds (ps := ["thing"]) fun _ _ _ _ _ _ us hl => match us, hl with | [_], _ => rfl⟩
  have f_law := fun_mk (st := s_law_) lo_law co_law kp_law
  have F_law : Fn K mg "law" s_law_ _ _ ["script"] := ⟨f_law, PySem.W.mg_of X G ad_law, f_law.binds (ps := ["script"]) fun _ _ _ _ _ _ us hl => match us, hl with | [_], _ => rfl⟩
  refine ⟨PySem.W.fnOf "law" "law" (defArgs s_law_) (defBody s_law_) (defScope s_law_) .none kV_law dc_law pm_law an_law cd_law ct_law, fun s v => .of_eq rfl, fun b _ _ => ?_⟩
  have k_is_whole := dv_is_whole (P := P) (w := w) (b := b) (sp := spWhole K) F_is_whole (PySem.W.mg_none_of X G no_isinstance) (PySem.W.mg_none_of X G no_int) (PySem.W.mg_none_of X G no_bool) (by intro vs H Q E h; first | (obtain ⟨_, rfl, _⟩ := h; rfl) | (obtain ⟨_, _, rfl, _⟩ := h; rfl) | (obtain ⟨_, _, _, rfl, _⟩ := h; rfl) | (obtain ⟨_, _, _, _, rfl, _⟩ := h; rfl) | (obtain ⟨_, _, _, _, _, rfl, _⟩ := h; rfl) | (obtain ⟨_, _, _, _, _, _, rfl, _⟩ := h; rfl) | (obtain ⟨_, _, _, _, _, _, _, rfl, _⟩ := h; rfl)) (rd_whole K)
  have k_is_within := dv_is_within (P := P) (w := w) (b := b) (sp := spWithin K) F_is_within F_is_whole k_is_whole (by intro vs H Q E h; first | (obtain ⟨_, rfl, _⟩ := h; rfl) | (obtain ⟨_, _, rfl, _⟩ := h; rfl) | (obtain ⟨_, _, _, rfl, _⟩ := h; rfl) | (obtain ⟨_, _, _, _, rfl, _⟩ := h; rfl) | (obtain ⟨_, _, _, _, _, rfl, _⟩ := h; rfl) | (obtain ⟨_, _, _, _, _, _, rfl, _⟩ := h; rfl) | (obtain ⟨_, _, _, _, _, _, _, rfl, _⟩ := h; rfl)) (rd_within K)
  have k_is_moment := dv_is_moment (P := P) (w := w) (b := b) (sp := spRange 0 1000000 K) F_is_moment F_is_within k_is_within (PySem.W.mg_of X G cn_LAST_MOMENT) (by intro vs H Q E h; first | (obtain ⟨_, rfl, _⟩ := h; rfl) | (obtain ⟨_, _, rfl, _⟩ := h; rfl) | (obtain ⟨_, _, _, rfl, _⟩ := h; rfl) | (obtain ⟨_, _, _, _, rfl, _⟩ := h; rfl) | (obtain ⟨_, _, _, _, _, rfl, _⟩ := h; rfl) | (obtain ⟨_, _, _, _, _, _, rfl, _⟩ := h; rfl) | (obtain ⟨_, _, _, _, _, _, _, rfl, _⟩ := h; rfl)) (rd_moment K)
  have k_is_grade := dv_is_grade (P := P) (w := w) (b := b) (sp := spRange 1 5 K) F_is_grade F_is_within k_is_within (PySem.W.mg_of X G cn_LAST_GRADE) (by intro vs H Q E h; first | (obtain ⟨_, rfl, _⟩ := h; rfl) | (obtain ⟨_, _, rfl, _⟩ := h; rfl) | (obtain ⟨_, _, _, rfl, _⟩ := h; rfl) | (obtain ⟨_, _, _, _, rfl, _⟩ := h; rfl) | (obtain ⟨_, _, _, _, _, rfl, _⟩ := h; rfl) | (obtain ⟨_, _, _, _, _, _, rfl, _⟩ := h; rfl) | (obtain ⟨_, _, _, _, _, _, _, rfl, _⟩ := h; rfl)) (rd_grade K)
  have k__law_pen := dv__law_pen (P := P) (w := w) (b := b) (sp := spPen K) F__law_pen (PySem.W.mg_none_of X G no_len) (PySem.W.mg_none_of X G no_abs) (by intro vs H Q E h; first | (obtain ⟨_, rfl, _⟩ := h; rfl) | (obtain ⟨_, _, rfl, _⟩ := h; rfl) | (obtain ⟨_, _, _, rfl, _⟩ := h; rfl) | (obtain ⟨_, _, _, _, rfl, _⟩ := h; rfl) | (obtain ⟨_, _, _, _, _, rfl, _⟩ := h; rfl) | (obtain ⟨_, _, _, _, _, _, rfl, _⟩ := h; rfl) | (obtain ⟨_, _, _, _, _, _, _, rfl, _⟩ := h; rfl)) (rd_pen K)
  have k__law_draw := dv__law_draw (P := P) (w := w) (b := b) (sp := spDraw) F__law_draw  (by intro vs H Q E h; first | (obtain ⟨_, rfl, _⟩ := h; rfl) | (obtain ⟨_, _, rfl, _⟩ := h; rfl) | (obtain ⟨_, _, _, rfl, _⟩ := h; rfl) | (obtain ⟨_, _, _, _, rfl, _⟩ := h; rfl) | (obtain ⟨_, _, _, _, _, rfl, _⟩ := h; rfl) | (obtain ⟨_, _, _, _, _, _, rfl, _⟩ := h; rfl) | (obtain ⟨_, _, _, _, _, _, _, rfl, _⟩ := h; rfl)) (rd_draw K)
  have k__law_far := dv__law_far (P := P) (w := w) (b := b) (sp := spFar) F__law_far (PySem.W.mg_none_of X G no_range) F__law_draw k__law_draw (by intro vs H Q E h; first | (obtain ⟨_, rfl, _⟩ := h; rfl) | (obtain ⟨_, _, rfl, _⟩ := h; rfl) | (obtain ⟨_, _, _, rfl, _⟩ := h; rfl) | (obtain ⟨_, _, _, _, rfl, _⟩ := h; rfl) | (obtain ⟨_, _, _, _, _, rfl, _⟩ := h; rfl) | (obtain ⟨_, _, _, _, _, _, rfl, _⟩ := h; rfl) | (obtain ⟨_, _, _, _, _, _, _, rfl, _⟩ := h; rfl)) (rd_far K)
  have k__law_things := dv__law_things (P := P) (w := w) (b := b) (sp := spThings K) F__law_things F__law_draw k__law_draw F__law_far k__law_far (PySem.W.mg_none_of X G no_str) (by intro vs H Q E h; first | (obtain ⟨_, rfl, _⟩ := h; rfl) | (obtain ⟨_, _, rfl, _⟩ := h; rfl) | (obtain ⟨_, _, _, rfl, _⟩ := h; rfl) | (obtain ⟨_, _, _, _, rfl, _⟩ := h; rfl) | (obtain ⟨_, _, _, _, _, rfl, _⟩ := h; rfl) | (obtain ⟨_, _, _, _, _, _, rfl, _⟩ := h; rfl) | (obtain ⟨_, _, _, _, _, _, _, rfl, _⟩ := h; rfl)) (rd_things K)
  have k__law_is := dv__law_is (P := P) (w := w) (b := b) (sp := spWithin K) F__law_is (PySem.W.mg_none_of X G no_isinstance) (PySem.W.mg_none_of X G no_int) (PySem.W.mg_none_of X G no_bool) (by intro vs H Q E h; first | (obtain ⟨_, rfl, _⟩ := h; rfl) | (obtain ⟨_, _, rfl, _⟩ := h; rfl) | (obtain ⟨_, _, _, rfl, _⟩ := h; rfl) | (obtain ⟨_, _, _, _, rfl, _⟩ := h; rfl) | (obtain ⟨_, _, _, _, _, rfl, _⟩ := h; rfl) | (obtain ⟨_, _, _, _, _, _, rfl, _⟩ := h; rfl) | (obtain ⟨_, _, _, _, _, _, _, rfl, _⟩ := h; rfl)) (rd_is K)
  have k__law_right := dv__law_right (P := P) (w := w) (b := b) (sp := spRight K) F__law_right F__law_is k__law_is (PySem.W.mg_none_of X G no_repr) F_is_grade k_is_grade F_is_moment k_is_moment (by intro vs H Q E h; first | (obtain ⟨_, rfl, _⟩ := h; rfl) | (obtain ⟨_, _, rfl, _⟩ := h; rfl) | (obtain ⟨_, _, _, rfl, _⟩ := h; rfl) | (obtain ⟨_, _, _, _, rfl, _⟩ := h; rfl) | (obtain ⟨_, _, _, _, _, rfl, _⟩ := h; rfl) | (obtain ⟨_, _, _, _, _, _, rfl, _⟩ := h; rfl) | (obtain ⟨_, _, _, _, _, _, _, rfl, _⟩ := h; rfl)) (rd_right K)
  have k_law := dv_law (P := P) (w := w) (b := b) (sp := spLaw K) F_law (PySem.W.mg_none_of X G no_range) (PySem.W.mg_none_of X G no_max) (PySem.W.mg_none_of X G no_min) (PySem.W.mg_none_of X G no_len) F__law_things k__law_things F__law_pen k__law_pen (PySem.W.mg_none_of X G no_repr) F__law_right k__law_right (by intro vs H Q E h; first | (obtain ⟨_, rfl, _⟩ := h; rfl) | (obtain ⟨_, _, rfl, _⟩ := h; rfl) | (obtain ⟨_, _, _, rfl, _⟩ := h; rfl) | (obtain ⟨_, _, _, _, rfl, _⟩ := h; rfl) | (obtain ⟨_, _, _, _, _, rfl, _⟩ := h; rfl) | (obtain ⟨_, _, _, _, _, _, rfl, _⟩ := h; rfl) | (obtain ⟨_, _, _, _, _, _, _, rfl, _⟩ := h; rfl)) (rd_law K)
  exact k_law
end Wg
open PySem PySem.W PyProof.Rows
set_option maxHeartbeats 0 in
theorem PySem.Challenge.cw_wagoncalls_k02_moments_and_grades_holds : PySem.Challenge.rw_wagoncalls_k02_moments_and_grades.Holds := by
  w_on; o_law; k_head; (case hw => w_witness2)
  k_fill
  refine Wg.walk_end (l := PySem.Challenge.rw_wagoncalls_k02_moments_and_grades) (n := 63) (k := 6) (x := "script") (sp := fun K => Wg.spLaw K) rfl (by decide) rfl ⟨⟨rfl, by decide, by decide⟩, rfl⟩ (fun w h Y => PySem.W.kIn_of Y) ?F ?S
  case S =>
    intro K H a ns hl ho hs
    exact ⟨a, ns, rfl, Wg.Scr.of ho hs, hl, fun _ => rfl⟩
  case F =>
    intro w mg fa h KX G hmg
    refine' Wg.all_mk KX G hmg ?ad_is_whole ?lo_is_whole ?co_is_whole ?kp_is_whole ?ad_is_within ?lo_is_within ?co_is_within ?kp_is_within ?ad_is_moment ?lo_is_moment ?co_is_moment ?kp_is_moment ?ad_is_grade ?lo_is_grade ?co_is_grade ?kp_is_grade ?ad__law_pen ?lo__law_pen ?co__law_pen ?kp__law_pen ?ad__law_draw ?lo__law_draw ?co__law_draw ?kp__law_draw ?ad__law_far ?lo__law_far ?co__law_far ?kp__law_far ?ad__law_things ?lo__law_things ?co__law_things ?kp__law_things ?ad__law_is ?lo__law_is ?co__law_is ?kp__law_is ?ad__law_right ?lo__law_right ?co__law_right ?kp__law_right ?ad_law ?lo_law ?co_law ?kp_law ?cn_LAST_MOMENT ?cn_LAST_GRADE ?no_isinstance ?no_int ?no_bool ?no_len ?no_abs ?no_range ?no_str ?no_repr ?no_max ?no_min
    (case ad_is_whole => k_is)
    (case lo_is_whole => k_is)
    (case co_is_whole => k_is)
    (case kp_is_whole => k_is)
    (case ad_is_within => k_is)
    (case lo_is_within => k_is)
    (case co_is_within => k_is)
    (case kp_is_within => k_is)
    (case ad_is_moment => k_is)
    (case lo_is_moment => k_is)
    (case co_is_moment => k_is)
    (case kp_is_moment => k_is)
    (case ad_is_grade => k_is)
    (case lo_is_grade => k_is)
    (case co_is_grade => k_is)
    (case kp_is_grade => k_is)
    (case ad__law_pen => k_is)
    (case lo__law_pen => k_is)
    (case co__law_pen => k_is)
    (case kp__law_pen => k_is)
    (case ad__law_draw => k_is)
    (case lo__law_draw => k_is)
    (case co__law_draw => k_is)
    (case kp__law_draw => k_is)
    (case ad__law_far => k_is)
    (case lo__law_far => k_is)
    (case co__law_far => k_is)
    (case kp__law_far => k_is)
    (case ad__law_things => k_is)
    (case lo__law_things => k_is)
    (case co__law_things => k_is)
    (case kp__law_things => k_is)
    (case ad__law_is => k_is)
    (case lo__law_is => k_is)
    (case co__law_is => k_is)
    (case kp__law_is => k_is)
    (case ad__law_right => k_is)
    (case lo__law_right => k_is)
    (case co__law_right => k_is)
    (case kp__law_right => k_is)
    (case ad_law => k_is)
    (case lo_law => k_is)
    (case co_law => k_is)
    (case kp_law => k_is)
    (case cn_LAST_MOMENT => k_is)
    (case cn_LAST_GRADE => k_is)
    (case no_isinstance => k_is)
    (case no_int => k_is)
    (case no_bool => k_is)
    (case no_len => k_is)
    (case no_abs => k_is)
    (case no_range => k_is)
    (case no_str => k_is)
    (case no_repr => k_is)
    (case no_max => k_is)
    (case no_min => k_is)
