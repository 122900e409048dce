package parse_test

import (
	"slices"
	"strconv"
	"strings"
	"testing"

	"palimpsest/api"
	"palimpsest/parse"
	"palimpsest/scan"
)

// The chapter's forms, as data; a reading of them that tries every way there is tells where a text's first fault is.
const forms = `
operation = "op" NAME "(" [ NAME { "," NAME } ] ")" "{" { "need" expr ";" } { stmt } [ "give" expr ";" ] "}"
stmt = "let" NAME "=" expr ";"
stmt = "[" expr "]" "=" expr ";"
stmt = "[" expr "]" "+=" expr ";"
stmt = "[" expr "]" "-=" expr ";"
stmt = "[" expr "]" "<>" "[" expr "]" ";"
stmt = "if" expr block [ "else" block ]
stmt = "for" NAME "in" "0" ".." NUMBER block
block = "{" { stmt } "}"
expr = and { "||" and }
and = test { "&&" test }
test = sum [ relation sum ]
relation = "<"
relation = "<="
relation = ">"
relation = ">="
relation = "=="
relation = "!="
sum = term { plus term }
plus = "+"
plus = "-"
term = unary { times unary }
times = "*"
times = "/"
times = "%"
unary = primary
unary = "!" unary
unary = "-" unary
primary = NUMBER
primary = "true"
primary = "false"
primary = NAME
primary = "[" expr "]"
primary = "(" expr ")"
`

// A form is the ways in which a thing may stand, each a row of items.
type form [][]string

func allForms() map[string]form {
	all := map[string]form{}
	for line := range strings.Lines(forms) {
		if name, way, ok := strings.Cut(strings.TrimSpace(line), " = "); ok {
			all[name] = append(all[name], strings.Fields(way))
		}
	}
	return all
}

// group is the place of the bracket that ends the group of items that begins at 0.
func group(items []string) int {
	depth := 0
	for i, item := range items {
		switch item {
		case "{", "[":
			depth++
		case "}", "]":
			depth--
		}
		if depth == 0 {
			return i
		}
	}
	return -1
}

// reading tries tokens in all ways, and keeps the place of the last one that was asked for.
type reading struct {
	forms  map[string]form
	tokens []api.Token
	last   int
}

// row tells whether items can stand from a place on, and what follows them can stand behind them.
func (r *reading) row(items []string, at int, follows func(at int) bool) bool {
	if len(items) == 0 {
		return follows(at)
	}
	rest := func(at int) bool { return r.row(items[1:], at, follows) }
	switch item := items[0]; item {
	case "{", "[":
		end := group(items)
		within, behind := items[1:end], items[end+1:]
		again := behind
		if item == "{" {
			again = items
		}
		return r.row(within, at, func(at int) bool { return r.row(again, at, follows) }) || r.row(behind, at, follows)
	default:
		if ways := r.forms[item]; ways != nil {
			for _, way := range ways {
				if r.row(way, at, rest) {
					return true
				}
			}
			return false
		}
		r.last = max(r.last, at)
		return isItem(r.tokens[at], item) && rest(at+1)
	}
}

func isItem(token api.Token, item string) bool {
	switch item {
	case "NAME":
		return token.Kind == api.TName && !scan.Keyword(token.Text)
	case "NUMBER":
		return token.Kind == api.TNumber
	case "END":
		return token.Kind == api.TEnd
	}
	return token.Kind != api.TEnd && strconv.Quote(token.Text) == item
}

// endsOperand tells whether a sign behind a token is a binary one.
func endsOperand(token api.Token) bool {
	return token.Kind == api.TNumber || token.Text == ")" || token.Text == "]" ||
		token.Kind == api.TName && (!scan.Keyword(token.Text) || token.Text == "true" || token.Text == "false")
}

// depths is how deep each token is that begins something deeper (of others 0), and how deep the deepest is. It is told of the
// tokens ahead of the first that doesn't stand in the form, and of that one.
func depths(tokens []api.Token) ([]int, int) {
	var open []string
	list := make([]int, len(tokens))
	for i, token := range tokens {
		switch {
		case token.Text == "(" || token.Text == "[" || token.Text == "{" || token.Text == "!" || token.Text == "-" && (i == 0 || !endsOperand(tokens[i-1])):
			open = append(open, token.Text)
			list[i] = len(open)
		case (token.Text == ")" || token.Text == "]" || token.Text == "}") && len(open) > 0:
			open = open[:len(open)-1]
		}
		for endsOperand(token) && len(open) > 0 && (open[len(open)-1] == "!" || open[len(open)-1] == "-") {
			open = open[:len(open)-1]
		}
	}
	return list, slices.Max(list)
}

// fault is the place of a text's first fault, -1 if there is none.
func fault(all map[string]form, tokens []api.Token) int {
	r := reading{forms: all, tokens: tokens}
	bad := len(tokens)
	if !r.row([]string{"operation", "END"}, 0, func(int) bool { return true }) {
		bad = r.last
	}
	list, _ := depths(tokens[:min(bad+1, len(tokens))])
	for i, depth := range list {
		if depth > 12 {
			return tokens[i].At
		}
	}
	if bad == len(tokens) {
		return -1
	}
	return tokens[bad].At
}

// A second reading of texts that are in the form: what stands loosest, or last of those, splits an expression.

func at(token api.Token) string { return "@" + strconv.Itoa(token.At) }

// splits is the place of the last token of these that is binary and stands in no bracket, -1 if there is none.
func splits(tokens []api.Token, texts ...string) int {
	depth := 0
	for i := len(tokens) - 1; i >= 0; i-- {
		switch token := tokens[i]; token.Text {
		case ")", "]", "}":
			depth++
		case "(", "[", "{":
			depth--
		default:
			if depth == 0 && slices.Contains(texts, token.Text) && (i > 0 && endsOperand(tokens[i-1]) || token.Text == "=") {
				return i
			}
		}
	}
	return -1
}

func modelExpr(tokens []api.Token) string {
	for _, level := range []string{"||", "&&", "< <= > >= == !=", "+ -", "* / %"} {
		if i := splits(tokens, strings.Fields(level)...); i >= 0 {
			return "(" + tokens[i].Text + at(tokens[i]) + " " + modelExpr(tokens[:i]) + " " + modelExpr(tokens[i+1:]) + ")"
		}
	}
	switch first := tokens[0]; first.Text {
	case "!":
		return "(not" + at(first) + " " + modelExpr(tokens[1:]) + ")"
	case "-":
		return "(neg" + at(first) + " " + modelExpr(tokens[1:]) + ")"
	case "[":
		return "(cell" + at(first) + " " + modelExpr(tokens[1:len(tokens)-1]) + ")"
	case "(":
		return modelExpr(tokens[1 : len(tokens)-1])
	}
	return tokens[0].Text + at(tokens[0])
}

// until is how many tokens there are ahead of the first with a text.
func until(tokens []api.Token, text string) int {
	return slices.IndexFunc(tokens, func(token api.Token) bool { return token.Text == text })
}

// blockEnd is how many tokens the block has that tokens begin with.
func blockEnd(tokens []api.Token) int {
	var items []string
	for _, token := range tokens {
		if token.Text == "{" || token.Text == "}" {
			items = append(items, token.Text)
		} else {
			items = append(items, "")
		}
	}
	return group(items) + 1
}

func modelBlock(tokens []api.Token) string {
	return " {" + modelStmts(tokens[1:len(tokens)-1]) + " }"
}

func modelStmts(tokens []api.Token) string {
	s := ""
	for len(tokens) > 0 {
		one, rest := modelStmt(tokens)
		s += " " + one + ";"
		tokens = rest
	}
	return s
}

func modelStmt(tokens []api.Token) (string, []api.Token) {
	first := tokens[0]
	switch first.Text {
	case "let":
		end := until(tokens, ";")
		return "let" + at(first) + " " + tokens[1].Text + " " + modelExpr(tokens[3:end]), tokens[end+1:]
	case "if":
		begin := until(tokens, "{")
		end := begin + blockEnd(tokens[begin:])
		s := "if" + at(first) + " " + modelExpr(tokens[1:begin]) + modelBlock(tokens[begin:end])
		tokens = tokens[end:]
		if len(tokens) > 0 && tokens[0].Text == "else" {
			end = 1 + blockEnd(tokens[1:])
			if end > 3 {
				s += modelBlock(tokens[1:end])
			}
			tokens = tokens[end:]
		}
		return s, tokens
	case "for":
		end := 6 + blockEnd(tokens[6:])
		return "for" + at(first) + " " + tokens[1].Text + " " + tokens[5].Text + modelBlock(tokens[6:end]), tokens[end:]
	}
	end := until(tokens, ";")
	i := splits(tokens[:end], "=", "+=", "-=", "<>")
	words := map[string]string{"=": "set", "+=": "add", "-=": "sub", "<>": "swap"}
	right := modelExpr(tokens[i+1 : end])
	if tokens[i].Text == "<>" {
		right = modelExpr(tokens[i+2 : end-1])
	}
	return words[tokens[i].Text] + at(first) + " " + modelExpr(tokens[1:i-1]) + " " + right, tokens[end+1:]
}

func modelOperation(tokens []api.Token) string {
	begin := until(tokens, "{")
	var names []string
	for _, token := range tokens[3:begin] {
		if token.Kind == api.TName {
			names = append(names, token.Text)
		}
	}
	s := tokens[1].Text + "(" + strings.Join(names, " ") + ") need"
	tokens = tokens[begin+1 : len(tokens)-2]
	for len(tokens) > 0 && tokens[0].Text == "need" {
		end := until(tokens, ";")
		s += " " + modelExpr(tokens[1:end])
		tokens = tokens[end+1:]
	}
	give := until(tokens, "give")
	if give < 0 {
		return s + " do" + modelStmts(tokens) + " give"
	}
	return s + " do" + modelStmts(tokens[:give]) + " give " + modelExpr(tokens[give+1:len(tokens)-1])
}

// held holds what a text answers against the second reading, and tells whether it has a definition.
func held(t *testing.T, all map[string]form, text string) bool {
	t.Helper()
	list, err := scan.Tokens(text)
	if err != nil {
		f := err.(*api.Fault)
		refused(t, text, f.Code, f.At)
		return false
	}
	if at := fault(all, list); at >= 0 {
		refused(t, text, api.ErrSyntax, at)
		return false
	}
	reads(t, text, modelOperation(list))
	return true
}

// P7.1: all short rows of tokens

// rows is all rows of up to so many words, joined by blanks.
func rows(words []string, most int) []string {
	all := []string{""}
	for from := 0; most > 0; most-- {
		size := len(all)
		for _, row := range all[from:size] {
			for _, word := range words {
				all = append(all, row+" "+word)
			}
		}
		from = size
	}
	return all
}

func TestAllShortExpressions(t *testing.T) {
	all := allForms()
	good := 0
	for _, row := range rows(strings.Fields("1 a true in + - * < && || ! [ ] ( )"), 4) {
		for _, frame := range []string{"op o(){give" + row + ";}", "op o(){if" + row + "{}}"} {
			if held(t, all, frame) {
				good++
			}
		}
	}
	for _, row := range rows(strings.Fields("1 a - < ! [ ] ( )"), 5) {
		held(t, all, "op o(){[0]+=1*"+row+";}")
	}
	if good < 500 {
		t.Errorf("%d are good", good)
	}
}

func TestAllShortBlocks(t *testing.T) {
	all := allForms()
	for _, row := range rows(strings.Fields("let if else for a 1 = += <> [ ] { } ; [0]=1; give need"), 3) {
		held(t, all, "op o(){"+row+"}")
		held(t, all, "op o(){if a{"+row+"}}")
		held(t, all, "op o(){[0]"+row+"[1];}")
		held(t, all, "op o(){if a"+row)
	}
	for _, row := range rows(strings.Fields("i in 0 .. 1 ( ) { } 10"), 4) {
		held(t, all, "op o(){for"+row+"{}}")
		held(t, all, "op o(){for i in"+row+"}")
	}
	for _, row := range rows(strings.Fields("op o ( ) , { } need give a ;"), 4) {
		held(t, all, row)
		held(t, all, "op"+row+"}")
		held(t, all, "op o"+row+"{}")
		held(t, all, "op o()"+row)
	}
}

// P7.1: texts of whatever bytes

func TestAllTextsOfTwoBytes(t *testing.T) {
	all := allForms()
	for one := range 256 {
		for _, frame := range []string{"", "op o", "op o(", "op o(){", "op o(){give a", "op o(){[0]", "op o(){for i in 0", "op o(){}"} {
			held(t, all, frame+string([]byte{byte(one)}))
			held(t, all, string([]byte{byte(one)})+frame)
		}
		for two := range 256 {
			held(t, all, "op o(){give a"+string([]byte{byte(one), byte(two)})+"b;}")
		}
	}
}

// P7.1 to P7.3: drawn texts

// draw is numbers in a row that looks like chance.
type draw uint64

// next is a number below n.
func (d *draw) next(n int) int {
	*d = *d*6364136223846793005 + 1442695040888963407
	return int(*d>>33) % n
}

// A maker draws operations' tokens from the forms.
type maker struct {
	draw
	forms map[string]form
	left  int // how many tokens there may still be, but for those that the forms ask for
}

// times is how often a group stands that begins with an item.
func (m *maker) times(bracket, item string) int {
	switch {
	case m.left <= 0:
		return 0
	case bracket == "[":
		return m.next(2)
	case slices.Contains([]string{`"||"`, `"&&"`, "plus", "times"}, item):
		return max(0, m.next(8)-5)
	}
	return m.next(4)
}

// way is one of the ways in which a thing may stand.
func (m *maker) way(name string) []string {
	ways := m.forms[name]
	if m.left <= 0 && name != "relation" && name != "plus" && name != "times" || name == "unary" && m.next(3) > 0 {
		return ways[0]
	}
	return ways[m.next(len(ways))]
}

func (m *maker) words(items []string) []string {
	var list []string
	for i := 0; i < len(items); i++ {
		switch item := items[i]; {
		case item == "{" || item == "[":
			end := i + group(items[i:])
			for range m.times(item, items[i+1]) {
				list = append(list, m.words(items[i+1:end])...)
			}
			i = end
		case m.forms[item] != nil:
			list = append(list, m.words(m.way(item))...)
		default:
			m.left--
			list = append(list, m.word(item))
		}
	}
	return list
}

func (d *draw) word(item string) string {
	switch item {
	case "NAME":
		return []string{"a", "B", "x_", "Op", "needs", "n2345678901234_6"}[d.next(6)]
	case "NUMBER":
		return []string{"0", "1", "59", "64", "9223372036854775807"}[d.next(5)]
	}
	return item[1 : len(item)-1]
}

// text is tokens with as little between them as there must be, or with blanks and remarks.
func (d *draw) text(words []string, wide bool) string {
	var b strings.Builder
	for i, word := range words {
		if i > 0 && (wide || isJoined(words[i-1], word)) {
			b.WriteString([]string{" ", "\n", "\t", "  ", "#\n", "# ; } é\n"}[d.next(6)])
		}
		b.WriteString(word)
	}
	return b.String()
}

// isJoined tells whether two tokens would be others, or none, if they stood without a blank.
func isJoined(a, b string) bool {
	list, err := scan.Tokens(a + b)
	return err != nil || len(list) != 3 || list[0].Text != a
}

// changed is tokens of which one is left out, doubled, replaced, or changed with the next one, or one is put in.
func (d *draw) changed(words []string) []string {
	others := strings.Fields("op need let if else for in give true false a 1 0 ( ) { } [ ] , ; + - * / % ! < > = += -= <> <= >= == != && || ..")
	other := others[d.next(len(others))]
	words = slices.Clone(words)
	i := d.next(len(words))
	switch d.next(5) {
	case 0:
		return slices.Delete(words, i, i+1)
	case 1:
		return slices.Insert(words, i, words[i])
	case 2:
		words[i] = other
	case 3:
		words[i], words[len(words)-1-i] = words[len(words)-1-i], words[i]
	default:
		return slices.Insert(words, i, other)
	}
	return words
}

// operations is so many drawn operations' tokens.
func (m *maker) operations(count int) [][]string {
	var list [][]string
	for len(list) < count {
		m.left = 10 + m.next(130)
		list = append(list, m.words([]string{"operation"}))
	}
	return list
}

func TestDrawnTexts(t *testing.T) {
	all := allForms()
	d := maker{draw: 7, forms: all}
	good, long := 0, 0
	for _, words := range d.operations(4000) {
		text := d.text(words, false)
		if len(text) > 480 {
			refused(t, text, api.ErrForm, 0)
			long++
			continue
		}
		if held(t, all, text) {
			good++
		}
		if wide := d.text(words, true); len(wide) <= 480 {
			held(t, all, wide)
			one, _ := parse.Parse(text)
			other, _ := parse.Parse(wide)
			if !parse.Same(one, other) || plain(one) != plain(other) {
				t.Errorf("%s: %s, but %s", short(wide), plain(other), plain(one))
			}
		}
	}
	if good < 2000 || long == 0 {
		t.Errorf("%d are good, %d too long", good, long)
	}
}

func TestDrawnTextsWithFaults(t *testing.T) {
	all := allForms()
	d := maker{draw: 8, forms: all}
	wrong := 0
	for _, words := range d.operations(3000) {
		for range 4 {
			text := d.text(d.changed(words), d.next(2) == 0)
			if len(text) <= 480 && !held(t, all, text) {
				wrong++
			}
		}
	}
	if wrong < 3000 {
		t.Errorf("%d are wrong", wrong)
	}
}

// Things that stand deep within one another, of all kinds.
func TestDrawnDepths(t *testing.T) {
	all := allForms()
	d := draw(9)
	counts := map[bool]int{}
	for range 6000 {
		text := "1"
		depth := 10 + d.next(5)
		blocks := d.next(depth)
		for range depth - blocks {
			text = []string{"(" + text + ")", "[" + text + "]", "-" + text, "!" + text, "2*-" + text + "<3", "(1)-(" + text + "-a)"}[d.next(6)]
		}
		text = []string{"let a=" + text + ";", "[" + text + "]=1;", "[0]<>[" + text + "];", "[1]-=" + text + ";", "if " + text + "{}"}[d.next(5)]
		for range blocks {
			text = []string{"if 1{" + text + "}", "if 1{}else{" + text + "}", "for i in 0..1{" + text + "}", "if ((2)){" + text + "}"}[d.next(4)]
		}
		counts[held(t, all, "op o(){"+text+"}")]++
	}
	if counts[true] < 500 || counts[false] < 500 {
		t.Error(counts)
	}
}
