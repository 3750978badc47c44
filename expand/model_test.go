package expand

import (
	"slices"
	"strconv"
	"strings"
	"sync"

	"sextant/api"
	"sextant/datum"
	"sextant/pattern"
)

// The model goes down into forms by calls, works on data in which an alias is a symbol with a mark and a number behind its base, and leaves matching and filling to package pattern. It gives up by a panic with the error.

// mark stands in no symbol that a test draws.
const mark = "\x01"

func baseOf(text string) string { return strings.SplitN(text, mark, 2)[0] }

func isAlias(text string) bool { return strings.Contains(text, mark) }

// The model gives up where a program has far too many uses for it, though not for the program that is tested.
const (
	patience = 1000
	givenUp  = api.Errno(-1)
)

// level is a frame: what has been bound, the last one first. A meaning is a text: keyword, variable or macro, and which.
type level struct {
	outer *level
	bound []string // names and meanings, by turns
}

func (l *level) own(id string) string {
	for i := 0; i < len(l.bound); i += 2 {
		if l.bound[i] == id {
			return l.bound[i+1]
		}
	}
	return ""
}

type plainAlias struct {
	of    string
	where *level
}

type plainMacro struct {
	where    *level
	literals []string
	rules    [][2]api.Datum
}

// model is a scope of number 1, with all that it has ever made.
type model struct {
	top     *level
	count   int
	uses    int
	aliases map[string]plainAlias
	macros  []plainMacro

	base       []string // the names and meanings of the base
	baseMacros int
}

// aModel is one for many programs, since the prelude takes its time. What it had of earlier ones is gone.
func aModel() *model {
	m := baseModel()
	m.top = &level{bound: slices.Clone(m.base)} // the names of the base, imported
	m.macros, m.aliases, m.count = m.macros[:m.baseMacros], map[string]plainAlias{}, 0
	return m
}

var baseModel = sync.OnceValue(newModel)

// newModel has the meanings of the base; the prelude is expanded by the model, too.
func newModel() *model {
	m := &model{top: &level{}, aliases: map[string]plainAlias{}}
	for _, word := range strings.Fields(chapterKeywords) {
		m.top.bound = append(m.top.bound, word, "keyword "+word)
	}
	for _, word := range strings.Fields(chapterPrimitives) {
		m.top.bound = append(m.top.bound, word, "variable "+word)
	}
	base := read(api.Prelude)
	if _, _, e := m.forms(base); e != api.OK {
		panic("the prelude")
	}
	for i, meaning := range m.top.bound { // as if it had been in another scope
		m.top.bound[i] = strings.Replace(meaning, "variable #1/", "variable ", 1)
	}
	m.base, m.baseMacros = m.top.bound, len(m.macros)
	return m
}

func (m *model) means(id string, at *level) string {
	for l := at; l != nil; l = l.outer {
		if meaning := l.own(id); meaning != "" {
			return meaning
		}
	}
	if alias, ok := m.aliases[id]; ok {
		return m.means(alias.of, alias.where)
	}
	return ""
}

// key tells apart what identifiers may be when they are held against literals.
func (m *model) key(id string, at *level) string {
	if meaning := m.means(id, at); meaning != "" {
		return meaning
	}
	return "nothing " + baseOf(id)
}

func need(ok bool, e api.Errno) {
	if !ok {
		panic(e)
	}
}

func (m *model) bind(l *level, id, meaning string) {
	need(l.own(id) == "", api.ErrForms)
	l.bound = append(l.bound, id, meaning)
}

func (m *model) bindVariable(l *level, id string) string {
	need(l.own(id) == "", api.ErrForms)
	name := "#1/" + id
	if l.outer != nil || isAlias(id) {
		m.count++
		need(m.count <= mostLocals, api.ErrLarge)
		name = "#" + strconv.Itoa(m.count) + ":" + baseOf(id)
	}
	m.bind(l, id, "variable "+name)
	return name
}

// itemsOf is a proper list's items.
func itemsOf(d api.Datum) []api.Datum {
	var out []api.Datum
	for ; d.Kind == api.Pair; d = d.List[1] {
		out = append(out, d.List[0])
	}
	need(d.Kind == api.Nil, api.ErrForms)
	return out
}

func symbol(d api.Datum) string {
	need(d.Kind == api.Symbol, api.ErrForms)
	return d.Text
}

// headOf: what the first of a pair means, if it is an identifier.
func (m *model) headOf(d api.Datum, at *level) string {
	if d.Kind == api.Pair && d.List[0].Kind == api.Symbol {
		return m.means(d.List[0].Text, at)
	}
	return ""
}

// forms: the model's own Forms. An error leaves it as it was.
func (m *model) forms(forms []api.Datum) (list []api.Core, place int, e api.Errno) {
	kept, count := slices.Clone(m.top.bound), m.count
	m.uses = 0
	defer func() {
		if caught, ok := recover().(api.Errno); ok {
			m.top.bound, m.count = kept, count
			list, e = nil, caught
		}
	}()
	var todo []func() api.Core
	var places []int
	for i, d := range forms {
		place = i
		m.topForm(d, func(f func() api.Core) { todo, places = append(todo, f), append(places, i) })
	}
	for i, f := range todo {
		place = places[i]
		list = append(list, f())
	}
	return list, 0, api.OK
}

func (m *model) topForm(d api.Datum, add func(func() api.Core)) {
	d = m.opened(d, m.top)
	switch m.headOf(d, m.top) {
	case "keyword begin":
		for _, part := range itemsOf(d)[1:] {
			m.topForm(part, add)
		}
	case "keyword define":
		name, value := m.definition(d, m.top)
		add(func() api.Core { return api.Core{Op: api.Define, Name: name, Args: []api.Core{value()}} })
	case "keyword define-syntax":
		m.syntax(d, m.top)
	default:
		add(func() api.Core { return m.core(d, m.top) })
	}
}

func (m *model) definition(d api.Datum, at *level) (string, func() api.Core) {
	parts := itemsOf(d)
	need(len(parts) > 1, api.ErrForms)
	if parts[1].Kind == api.Pair {
		name := m.bindVariable(at, symbol(parts[1].List[0]))
		return name, func() api.Core { return m.lambda(parts[1].List[1], parts[2:], at) }
	}
	need(len(parts) < 4 && parts[1].Kind == api.Symbol, api.ErrForms)
	name := m.bindVariable(at, parts[1].Text)
	if len(parts) == 2 {
		return name, func() api.Core { return api.Core{Op: api.Const, Value: api.Datum{Kind: api.Void}} }
	}
	return name, func() api.Core { return m.core(parts[2], at) }
}

func (m *model) syntax(d api.Datum, at *level) {
	parts := itemsOf(d)
	need(len(parts) == 3 && m.headOf(parts[2], at) == "keyword syntax-rules", api.ErrForms)
	id, rules := symbol(parts[1]), itemsOf(parts[2])
	need(len(rules) > 1, api.ErrForms)
	made := plainMacro{where: at}
	for _, literal := range itemsOf(rules[1]) {
		made.literals = append(made.literals, symbol(literal))
	}
	named := func(id string) string { return named(id, made.literals, func(l string) string { return l }) }
	var texts []string
	for _, literal := range made.literals {
		texts = append(texts, named(literal))
	}
	_, e := pattern.Vars(empty(), texts)
	need(e == api.OK, api.ErrForms)
	for _, rule := range rules[2:] {
		both := itemsOf(rule)
		need(len(both) == 2 && both[0].Kind == api.Pair, api.ErrForms)
		_, e := pattern.Vars(texted(both[0].List[1], named), texts)
		need(e == api.OK, api.ErrForms)
		made.rules = append(made.rules, [2]api.Datum{both[0].List[1], both[1]})
	}
	m.macros = append(m.macros, made)
	m.bind(at, id, "macro "+strconv.Itoa(len(m.macros)-1))
}

// texted is a datum with other texts for its symbols.
func texted(d api.Datum, text func(string) string) api.Datum {
	if d.Kind == api.Symbol {
		d.Text = text(d.Text)
	}
	items := d.List
	d.List = nil
	for _, item := range items {
		d.List = append(d.List, texted(item, text))
	}
	return d
}

// named is what package pattern is told of an identifier of a pattern.
func named(id string, literals []string, key func(string) string) string {
	switch {
	case baseOf(id) == "..." || baseOf(id) == "_":
		return baseOf(id)
	case slices.Contains(literals, id):
		return "L" + key(id)
	}
	return "V" + id
}

// opened: a form that is no use.
func (m *model) opened(d api.Datum, at *level) api.Datum {
	number, ok := strings.CutPrefix(m.headOf(d, at), "macro ")
	if !ok {
		return d
	}
	itemsOf(d)
	m.uses++
	need(m.uses <= patience, givenUp)
	n, _ := strconv.Atoi(number)
	for _, rule := range m.macros[n].rules {
		if found, ok := m.find(m.macros[n], rule[0], d.List[1], at); ok {
			return m.opened(m.filled(m.macros[n], rule[1], found), at)
		}
	}
	panic(api.ErrForms)
}

// find asks twice: whether it matches, with each identifier that is a literal told as that, and then what is matched, with no literals.
func (m *model) find(of plainMacro, p, d api.Datum, at *level) ([]api.Match, bool) {
	key := func(literal string) string { return m.key(literal, of.where) }
	var texts []string
	for _, literal := range of.literals {
		texts = append(texts, "L"+key(literal))
	}
	in := texted(p, func(id string) string { return named(id, of.literals, key) })
	if _, e := pattern.Find(in, texts, texted(d, func(id string) string { return "L" + m.key(id, at) })); e != api.OK {
		return nil, false
	}
	free := texted(in, func(text string) string {
		if slices.Contains(texts, text) {
			return "_"
		}
		return text
	})
	found, e := pattern.Find(free, nil, texted(d, func(id string) string { return "D" + id }))
	need(e == api.OK, 999)
	return found, true
}

func (m *model) filled(of plainMacro, template api.Datum, found []api.Match) api.Datum {
	vars := map[string]int{}
	for _, match := range found {
		vars[match.Name]++
	}
	dots := "..."
	t := texted(template, func(id string) string {
		switch {
		case baseOf(id) == "...":
			dots = id
			return "..."
		case vars["V"+id] > 0:
			return "V" + id
		}
		return "T" + id
	})
	out, e := pattern.Fill(t, found)
	need(e == api.OK || e == api.ErrLarge, api.ErrForms)
	need(e == api.OK, e)
	made := map[string]*string{}
	return texted(out, func(text string) string {
		if strings.HasPrefix(text, "D") {
			return text[1:]
		}
		id := dots
		if text != "..." {
			id = text[1:]
		}
		if made[id] == nil {
			alias := baseOf(id) + mark + strconv.Itoa(len(m.aliases))
			m.aliases[alias], made[id] = plainAlias{id, of.where}, &alias
		}
		return *made[id]
	})
}

func (m *model) variable(id string, at *level) string {
	meaning := m.means(id, at)
	need(meaning != "", api.ErrBound)
	name, ok := strings.CutPrefix(meaning, "variable ")
	need(ok, api.ErrForms)
	return name
}

func (m *model) core(d api.Datum, at *level) api.Core {
	d = m.opened(d, at)
	switch d.Kind {
	case api.Bool, api.Number, api.Char, api.String, api.Bytes:
		return api.Core{Op: api.Const, Value: d}
	case api.Symbol:
		return api.Core{Op: api.Ref, Name: m.variable(d.Text, at)}
	case api.Pair:
		parts := itemsOf(d)
		if word, ok := strings.CutPrefix(m.headOf(d, at), "keyword "); ok {
			return m.special(word, parts[1:], at)
		}
		return api.Core{Op: api.Call, Args: m.cores(parts, at)}
	}
	panic(api.ErrForms)
}

func (m *model) cores(parts []api.Datum, at *level) []api.Core {
	var out []api.Core
	for _, part := range parts {
		out = append(out, m.core(part, at))
	}
	return out
}

func (m *model) special(word string, parts []api.Datum, at *level) api.Core {
	n := len(parts)
	switch word {
	case "quote":
		need(n == 1, api.ErrForms)
		return api.Core{Op: api.Const, Value: texted(parts[0], baseOf)}
	case "if":
		need(n == 2 || n == 3, api.ErrForms)
		args := m.cores(parts, at)
		if n == 2 {
			args = append(args, api.Core{Op: api.Const, Value: api.Datum{Kind: api.Void}})
		}
		return api.Core{Op: api.If, Args: args}
	case "set!":
		need(n == 2, api.ErrForms)
		name := m.variable(symbol(parts[0]), at)
		return api.Core{Op: api.Set, Name: name, Args: m.cores(parts[1:], at)}
	case "begin":
		need(n > 0, api.ErrForms)
		return joined(m.cores(parts, at))
	case "lambda":
		need(n > 0, api.ErrForms)
		return m.lambda(parts[0], parts[1:], at)
	case "letrec*":
		need(n > 0, api.ErrForms)
		return m.letrec(itemsOf(parts[0]), parts[1:], at)
	}
	panic(api.ErrForms)
}

// joined: one or more as one.
func joined(list []api.Core) api.Core {
	if len(list) == 1 {
		return list[0]
	}
	return api.Core{Op: api.Seq, Args: list}
}

// bindAll binds identifiers that must be different in a new frame.
func (m *model) bindAll(ids []api.Datum, at *level) (names []string, inner *level) {
	for i, id := range ids {
		symbol(id)
		need(!slices.ContainsFunc(ids[:i], func(other api.Datum) bool { return other.Text == id.Text }), api.ErrForms)
	}
	inner = &level{outer: at}
	for _, id := range ids {
		names = append(names, m.bindVariable(inner, id.Text))
	}
	return names, inner
}

func (m *model) lambda(formals api.Datum, body []api.Datum, at *level) api.Core {
	var ids []api.Datum
	for ; formals.Kind == api.Pair; formals = formals.List[1] {
		ids = append(ids, formals.List[0])
	}
	rest := formals.Kind != api.Nil
	if rest {
		ids = append(ids, formals)
	}
	names, inner := m.bindAll(ids, at)
	return api.Core{Op: api.Lambda, Params: names, Rest: rest, Args: []api.Core{m.body(body, inner)}}
}

func (m *model) letrec(bindings, body []api.Datum, at *level) api.Core {
	var ids, values []api.Datum
	for _, binding := range bindings {
		both := itemsOf(binding)
		need(len(both) == 2, api.ErrForms)
		ids, values = append(ids, both[0]), append(values, both[1])
	}
	names, inner := m.bindAll(ids, at)
	args := m.cores(values, inner)
	return api.Core{Op: api.Letrec, Params: names, Args: append(args, m.body(body, inner))}
}

func (m *model) body(forms []api.Datum, at *level) api.Core {
	at = &level{outer: at}
	var names []string
	var values []func() api.Core
	for len(forms) > 0 {
		d := m.opened(forms[0], at)
		head := m.headOf(d, at)
		if head != "keyword begin" && head != "keyword define" && head != "keyword define-syntax" {
			forms = append([]api.Datum{d}, forms[1:]...)
			break
		}
		forms = forms[1:]
		switch head {
		case "keyword begin":
			forms = append(itemsOf(d)[1:], forms...)
		case "keyword define":
			name, value := m.definition(d, at)
			names, values = append(names, name), append(values, value)
		default:
			m.syntax(d, at)
		}
	}
	need(len(forms) > 0, api.ErrForms)
	var args []api.Core
	for _, value := range values {
		args = append(args, value())
	}
	last := joined(m.cores(forms, at))
	if len(names) == 0 {
		return last
	}
	return api.Core{Op: api.Letrec, Params: names, Args: append(args, last)}
}

// plainForms is Forms by the model, of any data.
func (m *model) plainForms(forms []api.Datum) ([]api.Core, int, api.Errno) {
	for i, d := range forms {
		if !datum.Sound(d) {
			return nil, i, api.ErrForm
		}
	}
	return m.forms(forms)
}
