package datum

import (
	"math/rand/v2"
	"regexp"
	"strconv"
	"strings"
	"testing"
	"unicode/utf8"

	"sextant/api"
	"sextant/exact"
)

// The tokens as patterns, each for itself.
const (
	blankPattern  = "\\t-\\r \\x{85}\\x{a0}\\x{2028}\\x{2029}"
	escapePattern = `\\x[0-9A-Fa-f]{1,8};`
	firstPattern  = `(?:[A-Za-z!$%&*/:<=>?^_~]|[^\x00-\x7f` + blankPattern + `]|` + escapePattern + `)`
	restPattern   = `(?:[0-9+\-.@]|` + firstPattern + `)`
	realPattern   = `[0-9A-Fa-f]+(?:/[0-9A-Fa-f]+)?`
)

var (
	blankRun    = regexp.MustCompile(`^[` + blankPattern + `]+`)
	lineRemark  = regexp.MustCompile(`^;[^\n\r\x{85}\x{2028}]*`)
	anyWord     = regexp.MustCompile(`^(?:[^\\()\[\]";` + blankPattern + `]|\\(?s:.)(?:[0-9A-Fa-f]+;?)?|\\$)+`)
	aSymbol     = regexp.MustCompile(`^(?:[+-]|\.\.\.|(?:->|` + firstPattern + `)` + restPattern + `*)$`)
	aNumber     = regexp.MustCompile(`^(?:#[bodxeBODXE]){0,2}(?:[+-]?` + realPattern + `|(?:[+-]?` + realPattern + `)?[+-](?:` + realPattern + `)?[iI])$`)
	anEscape    = regexp.MustCompile(escapePattern)
	inString    = regexp.MustCompile(`^(?:[^\\]|\\[abtnvfr"\\]|` + escapePattern + `)*$`)
	oneEscape   = regexp.MustCompile(`\\[^x]|` + escapePattern)
	charNumber  = regexp.MustCompile(`^x[0-9A-Fa-f]{1,8}$`)
	twoReadings = regexp.MustCompile(`#\\(?s:.);`)
)

// model reads as the program does, but by patterns, and tells a fault by what it answers.
type model struct {
	s     string
	at    int
	large bool
}

func (m *model) rest() string { return m.s[m.at:] }

func (m *model) pass(pattern *regexp.Regexp) string {
	found := pattern.FindString(m.rest())
	m.at += len(found)
	return found
}

func (m *model) passText(text string) bool {
	ok := strings.HasPrefix(m.rest(), text)
	if ok {
		m.at += len(text)
	}
	return ok
}

func (m *model) gap() (ok bool) {
	for {
		switch {
		case m.pass(blankRun) != "" || m.pass(lineRemark) != "":
		case m.passText("#|"):
			if !m.nest() {
				return false
			}
		case m.passText("#;"):
			from, large := m.at, m.large
			if _, ok := m.afterGap(); !ok || !utf8.ValidString(m.s[from:m.at]) {
				return false
			}
			m.large = large
		default:
			return true
		}
	}
}

// nest goes on to the end of a remark by those that stand in it.
func (m *model) nest() (ok bool) {
	for {
		end, inner := strings.Index(m.rest(), "|#"), strings.Index(m.rest(), "#|")
		switch {
		case end < 0:
			return false
		case inner < 0 || end < inner:
			m.at += end + 2
			return true
		}
		m.at += inner + 2
		if !m.nest() {
			return false
		}
	}
}

func (m *model) afterGap() (api.Datum, bool) {
	if !m.gap() {
		return api.Datum{}, false
	}
	return m.datum()
}

func (m *model) datum() (api.Datum, bool) {
	switch {
	case m.passText("("):
		return m.list(")", true)
	case m.passText("["):
		return m.list("]", true)
	case m.passText("#("):
		return m.vector(func(items []api.Datum) (api.Datum, bool) { return vector(items...), true })
	case m.passText("#vu8("):
		return m.vector(bytesOf)
	case m.passText("'"):
		d, ok := m.afterGap()
		return list(sym("quote"), d), ok
	case m.passText(`"`):
		return m.quotation()
	}
	return m.token()
}

// list reads from its end: what it answers is what is left of it.
func (m *model) list(end string, first bool) (api.Datum, bool) {
	if !m.gap() {
		return api.Datum{}, false
	}
	if m.passText(end) {
		return empty(), true
	}
	if anyWord.FindString(m.rest()) == "." {
		m.at++
		tail, ok := m.afterGap()
		return tail, ok && !first && m.gap() && m.passText(end)
	}
	head, ok := m.datum()
	if !ok {
		return api.Datum{}, false
	}
	tail, ok := m.list(end, false)
	return pair(head, tail), ok
}

func (m *model) vector(of func(items []api.Datum) (api.Datum, bool)) (api.Datum, bool) {
	var items []api.Datum
	for {
		if !m.gap() {
			return api.Datum{}, false
		}
		if m.passText(")") {
			return of(items)
		}
		item, ok := m.datum()
		if !ok {
			return api.Datum{}, false
		}
		items = append(items, item)
	}
}

func bytesOf(items []api.Datum) (api.Datum, bool) {
	var b []byte
	for _, item := range items {
		if item.Kind != api.Number {
			return api.Datum{}, false
		}
		text, _ := exact.Text(item.Num, 10)
		n, err := strconv.ParseUint(text, 10, 8)
		if err != nil {
			return api.Datum{}, false
		}
		b = append(b, byte(n))
	}
	return raw(b...), true
}

func (m *model) quotation() (api.Datum, bool) {
	for i := m.at; i < len(m.s); i++ {
		switch m.s[i] {
		case '\\':
			i++
		case '"':
			text, ok := m.unquoted(m.s[m.at:i])
			m.at = i + 1
			return str(text), ok
		}
	}
	return api.Datum{}, false
}

// unquoted takes the line ends first, and then the escapes, of which none can make one.
func (m *model) unquoted(s string) (string, bool) {
	s = strings.NewReplacer("\r\n", "\n", "\r\u0085", "\n", "\r", "\n", "\u0085", "\n", "\u2028", "\n").Replace(s)
	if inString.FindString(s) != s {
		return "", false
	}
	ok := true
	s = oneEscape.ReplaceAllStringFunc(s, func(e string) string {
		if i := strings.Index("abtnvfr", e[1:2]); i >= 0 {
			return string(rune(7 + i))
		}
		if e[1] != 'x' {
			return e[1:]
		}
		text, fine := m.numbered(e)
		ok = ok && fine
		return text
	})
	return s, ok
}

func (m *model) numbered(escape string) (text string, ok bool) {
	n, err := strconv.ParseInt(strings.Trim(escape, `\x;`), 16, 64)
	text = string(rune(n))
	return text, err == nil && n <= 0x10FFFF && (n < 0xD800 || n > 0xDFFF)
}

func (m *model) token() (api.Datum, bool) {
	word := m.pass(anyWord)
	switch {
	case word == "#t" || word == "#T" || word == "#f" || word == "#F":
		return boolean(strings.Count(strings.ToLower(word), "t")), true
	case strings.HasPrefix(word, `#\`):
		return m.character(word[2:])
	case aNumber.MatchString(word):
		if n, e := exact.Read(word, 10); e != api.ErrText {
			m.large = m.large || e == api.ErrLarge
			return api.Datum{Kind: api.Number, Num: n}, e != api.ErrZero
		}
	}
	if !aSymbol.MatchString(word) {
		return api.Datum{}, false
	}
	ok := true
	name := anEscape.ReplaceAllStringFunc(word, func(e string) string {
		text, fine := m.numbered(e)
		ok = ok && fine
		return text
	})
	return sym(name), ok
}

func (m *model) character(name string) (api.Datum, bool) {
	if c, ok := charNames()[name]; ok {
		return char(c), true
	}
	if runes := []rune(name); len(runes) == 1 {
		return char(runes[0]), true
	}
	if !charNumber.MatchString(name) {
		return api.Datum{}, false
	}
	text, ok := m.numbered(`\` + name + `;`)
	c, _ := utf8.DecodeRuneInString(text)
	return char(c), ok
}

// modelRead is Read by the model.
func modelRead(s string) (api.Datum, int, api.Errno) {
	m := &model{s: s}
	if len(s) > longestText {
		return api.Datum{}, 0, api.ErrLong
	}
	if !m.gap() {
		return api.Datum{}, 0, api.ErrText
	}
	if m.rest() == "" {
		return api.Datum{}, 0, api.ErrEnd
	}
	d, ok := m.datum()
	switch {
	case !ok || !utf8.ValidString(s[:m.at]):
		return api.Datum{}, 0, api.ErrText
	case m.large || count(d) > mostNodes || depth(d) > deepest:
		return api.Datum{}, 0, api.ErrLarge
	}
	return d, m.at, api.OK
}

// heldToModel: Read and All answer as the model does.
func heldToModel(t *testing.T, s string) {
	t.Helper()
	want, place, e := modelRead(s)
	if e != api.OK {
		refused(t, s, e)
	} else {
		reads(t, s, want, place)
	}
	var data []api.Datum
	at := 0
	for e == api.OK {
		data = append(data, want)
		at += place
		want, place, e = modelRead(s[at:])
	}
	if e != api.ErrEnd {
		allRefused(t, s, e, at)
	} else {
		allAre(t, s, data...)
	}
}

// plain: is there nothing in the text that the chapter could be read in two ways about? (A ; right behind #\ and a character; a bad byte in a remark behind which no datum stands; a dot right behind a remark.)
func plain(s string) bool {
	return !twoReadings.MatchString(s) && !strings.Contains(s, "|#.") && (utf8.ValidString(s) || !strings.ContainsAny(s, ";|"))
}

func pieces() []string {
	return []string{
		"(", ")", "[", "]", "(", ")", "(a", " . b)", "#(", "#vu8(", "'", "\"", "\"", "\\", "#", "#\\", "#;", "#|", "|#", ";", "|", " ", " ", "\n", "\r", "\t", "\u0085", "\u00a0", "\u2028", "\u2029",
		".", " . ", "..", "...", "+", "-", "->", ">", "@", "!", ":", "a", "b", "x", "i", "t", "n", "é", "λ", "\U0001f600", "\ufffd", "0", "1", "7", "12", "255", "256", "/", "1/2", "1/0", "+i", "-2i", "#x", "#e", "#t", "#F", "tab", "space", "nul", "x41", "\\x41;", "\\x3bb;", "\\xd800;", "\\x110000;", "D800", "\\n", "\\\"", "\\\\", "\x00", "\x7f", "\xff", "\xc3", "`", ",", "{",
	}
}

// P8.2, P8.3: texts of pieces at random, whatever they make, and of tokens with blanks between, which make more.
func TestRandomTexts(t *testing.T) {
	random := rand.New(rand.NewPCG(8, 8))
	tokens := []string{"(", ")", "(", ")", "(", ")", "[", "]", "#(", ")", "#vu8(", "1 ", "255 ", "' ", ". ", "a ", "é ", "\"b\" ", "\"\r\n\\x41;\" ", "#t ", "#\\a ", "#\\space ", "#\\( ", "-1/2 ", "+i ", "... ", "-> ", "a\\x20;b ", "#;", "#|r|#", ";r\n", "\u2028"}
	for range 60000 {
		for _, of := range [][]string{pieces(), tokens} {
			var text strings.Builder
			for range 1 + random.IntN(14) {
				text.WriteString(of[random.IntN(len(of))])
			}
			if plain(text.String()) {
				heldToModel(t, text.String())
			}
		}
		if t.Failed() {
			return
		}
	}
}

// randomDatum is one of at most so many levels, of kinds that can be read.
func randomDatum(random *rand.Rand, levels int) api.Datum {
	if levels == 0 || random.IntN(3) == 0 {
		atoms := []api.Datum{empty(), boolean(0), boolean(1), whole(0), whole(-12345), complexNumber(1, 3, 0, 1), complexNumber(-1, 2, 5, 7), char('a'), char(' '), char('('), char(0), char(0x10FFFF), str(""), str("a\"\\\n\r\u0085é\x00"), sym("a"), sym("a b"), sym("1"), sym("->x y"), sym("é"), raw(), raw(0, 255), vector()}
		return atoms[random.IntN(len(atoms))]
	}
	var items []api.Datum
	for range 1 + random.IntN(4) {
		items = append(items, randomDatum(random, levels-1))
	}
	switch random.IntN(4) {
	case 0:
		return vector(items...)
	case 1:
		return dotted(randomDatum(random, levels-1), items...)
	case 2:
		return list(sym("quote"), items[0])
	}
	return list(items...)
}

// laid writes a datum in one of the many forms that it can have, with gaps of any kind.
func laid(random *rand.Rand, d api.Datum) string {
	all := gaps()
	gap := func() string {
		chosen := all[random.IntN(len(all))]
		if strings.HasPrefix(chosen, ";") {
			return " " + chosen // right behind a character's digits, the ; would belong to them
		}
		return chosen
	}
	join := func(open string, items []api.Datum, end string) string {
		text := open
		for _, item := range items {
			text += gap() + laid(random, item)
		}
		return text + gap() + end
	}
	switch d.Kind {
	case api.Nil:
		return join("(", nil, ")")
	case api.Bool:
		return []string{"#f", "#F", "#t", "#T"}[2*d.N+random.IntN(2)]
	case api.Number:
		text, _ := exact.Text(d.Num, 16)
		return []string{"#x", "#X", "#e#x", "#x#E"}[random.IntN(4)] + strings.ToUpper(text)
	case api.Char:
		return "#\\x" + strings.Repeat("0", random.IntN(3)) + strconv.FormatInt(int64(d.N), 16)
	case api.String:
		return `"` + escapedText(d.Text) + `"`
	case api.Symbol:
		return escapedText(d.Text)
	case api.Bytes:
		var items []api.Datum
		for _, b := range d.Raw {
			items = append(items, whole(int(b)))
		}
		return join("#vu8(", items, ")")
	case api.Vector:
		return join("#(", d.List, ")")
	}
	if second := d.List[1]; same(d.List[0], sym("quote")) && second.Kind == api.Pair && second.List[1].Kind == api.Nil && random.IntN(2) == 0 {
		return "'" + gap() + laid(random, second.List[0])
	}
	var items []api.Datum
	for d.Kind == api.Pair && (len(items) == 0 || random.IntN(5) > 0) {
		items, d = append(items, d.List[0]), d.List[1]
	}
	open, end := "(", ")"
	if random.IntN(2) == 0 {
		open, end = "[", "]"
	}
	if d.Kind == api.Nil && random.IntN(5) > 0 {
		return join(open, items, end)
	}
	return join(open, items, " . "+laid(random, d)+gap()+end)
}

func escapedText(s string) string {
	out := ""
	for _, c := range s {
		out += "\\x" + strconv.FormatInt(int64(c), 16) + ";"
	}
	return out
}

// P8.2: a datum is read back from whatever form it is laid out in.
func TestLaidOutAndRead(t *testing.T) {
	random := rand.New(rand.NewPCG(8, 2))
	for range 5000 {
		d := randomDatum(random, 4)
		text := laid(random, d)
		reads(t, text+" )", d, len(text))
		if len(text) < 1000 {
			heldToModel(t, text)
		}
		if t.Failed() {
			return
		}
	}
}

func FuzzTexts(f *testing.F) {
	for _, s := range []string{"(a . (b))x", "#;1 2", "'a", "[a)", "#\\xD800", "#vu8(256)", "; a", "a\\x41;", "->a", "1 ) 2", "\"a\\x41;\r\n\"", "#|#||#|# #(1/2 +i)", "\xff"} {
		f.Add(s)
	}
	f.Fuzz(func(t *testing.T, s string) {
		if plain(s) {
			heldToModel(t, s)
		}
	})
}
