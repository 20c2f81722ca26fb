package parse

import (
	"regexp"
	"slices"
	"strings"

	"astrolabe/api"
	"astrolabe/lex"
)

// The model: the chapter's rules, read as they stand there; what they allow is found by trying all ways at once.

const rules = `
    program = { decl }
    decl    = "fun" NAME "(" params ")" ":" type "=" expr ";"
            | "node" NAME "(" params ")" ":" type "{" { let } "return" expr ";" "}"
            | "hybrid" NAME "(" params ")" "{" { item } "}"
    params  = [ NAME ":" type { "," NAME ":" type } ]
    type    = "fix" | "bool"
    let     = "let" NAME ":" type "=" expr ";"
    item    = let
            | "der" NAME "=" expr "init" expr ";"
            | "reset" NAME "on" expr "=" expr ";"
            | "mem" NAME ":" type "init" expr ";"
            | "on" expr "set" NAME "=" expr ";"
            | "mode" NAME "{" NAME { "," NAME } "}" ";"
            | "from" NAME "." NAME "on" expr "goto" NAME ";"
            | "out" NAME ";"
    expr    = "if" expr "then" expr "else" expr | or [ ( "->" | "fby" ) expr ]
    or      = and { "or" and }
    and     = rel { "and" rel }
    rel     = sum [ ( "<" | "<=" | "==" ) sum ]
    sum     = term { ( "+" | "-" ) term }
    term    = prefix { ( "*" | "/" ) prefix }
    prefix  = ( "-" | "not" | "pre" | "sqrt" ) prefix | atom
    atom    = NUMBER | "true" | "false" | NAME [ "(" [ expr { "," expr } ] ")" | "is" NAME ] | "(" expr ")"
`

// a form is what may stand at a place, so deep: it hands on the places behind it.
type form func(m *model, at, deep int) []int

type model struct {
	tokens []api.Token
	forms  map[string]form
	fail   int // the first token that nothing fits that fits those ahead of it
	begins []begin
}

// a begin is where an expr, or a prefix, may begin that is too deep.
type begin struct {
	rule string
	at   int
}

var modelForms = readRules()

func readRules() map[string]form {
	words := regexp.MustCompile(`"[^"]*"|[A-Za-z]+|[=|{}()\[\]]`).FindAllString(rules, -1)
	r := &ruleReader{words: words}
	forms := map[string]form{}
	for len(r.words) > 0 {
		name := r.next()
		r.next() // =
		forms[name] = r.either()
	}
	return forms
}

type ruleReader struct{ words []string }

func (r *ruleReader) next() string {
	w := r.words[0]
	r.words = r.words[1:]
	return w
}

func (r *ruleReader) either() form {
	l := []form{r.row()}
	for len(r.words) > 0 && r.words[0] == "|" {
		r.next()
		l = append(l, r.row())
	}
	return func(m *model, at, deep int) []int {
		var ends []int
		for _, f := range l {
			ends = append(ends, f(m, at, deep)...)
		}
		return ends
	}
}

func (r *ruleReader) row() form {
	var l []form
	for len(r.words) > 0 && !strings.Contains("|)]}", r.words[0]) && (len(r.words) < 2 || r.words[1] != "=") {
		l = append(l, r.one())
	}
	return func(m *model, at, deep int) []int {
		ends := []int{at}
		for _, f := range l {
			ends = allEnds(m, f, ends, deep)
		}
		return ends
	}
}

func allEnds(m *model, f form, from []int, deep int) []int {
	var ends []int
	for _, at := range from {
		ends = append(ends, f(m, at, deep)...)
	}
	slices.Sort(ends)
	return slices.Compact(ends)
}

func (r *ruleReader) one() form {
	switch w := r.next(); {
	case w == "(" || w == "[" || w == "{":
		f := r.either()
		r.next()
		return map[string]func(form) form{"(": func(f form) form { return f }, "[": orNot, "{": often}[w](f)
	case w == "NAME":
		return token(func(t api.Token) bool { return t.Kind == api.TokName })
	case w == "NUMBER":
		return token(func(t api.Token) bool { return t.Kind == api.TokNumber })
	case w[0] == '"':
		text := strings.Trim(w, `"`)
		return token(func(t api.Token) bool {
			return t.Text == text && (t.Kind == api.TokWord || t.Kind == api.TokSign)
		})
	default:
		return rule(w)
	}
}

func orNot(f form) form {
	return func(m *model, at, deep int) []int { return append(f(m, at, deep), at) }
}

func often(f form) form {
	return func(m *model, at, deep int) []int {
		all, last := []int{at}, []int{at}
		for len(last) > 0 {
			last = allEnds(m, f, last, deep)
			all = append(all, last...)
		}
		return all
	}
}

func token(is func(t api.Token) bool) form {
	return func(m *model, at, deep int) []int {
		if is(m.tokens[at]) {
			return []int{at + 1}
		}
		m.fail = max(m.fail, at)
		return nil
	}
}

func rule(name string) form {
	counts := name == "expr" || name == "prefix"
	return func(m *model, at, deep int) []int {
		if counts {
			deep++
			if deep > 30 {
				m.begins = append(m.begins, begin{name, at})
			}
		}
		return m.forms[name](m, at, deep)
	}
}

// canBegin tells whether an expr, or a prefix, can begin with a token.
func canBegin(rule string, t api.Token) bool {
	return t.Kind == api.TokName || t.Kind == api.TokNumber || t.Text == "if" && rule == "expr" ||
		slices.Contains(strings.Fields("true false ( - not pre sqrt"), t.Text)
}

// modelFault is the fault of a text read by the rule of that name.
func modelFault(s, name string) api.Fault {
	tokens, fault := lex.Lex(s)
	if fault.Code != api.OK {
		return fault
	}
	m := &model{tokens: tokens, forms: modelForms}
	end := token(func(t api.Token) bool { return t.Kind == api.TokEnd })
	fits := len(allEnds(m, end, rule(name)(m, 0, 0), 0)) > 0
	first := len(tokens)
	for _, b := range m.begins {
		if canBegin(b.rule, tokens[b.at]) || !fits && b.at == m.fail {
			first = min(first, b.at)
		}
	}
	switch {
	case first < len(tokens):
		return api.Fault{Code: api.ErrDepth, At: tokens[first].At}
	case !fits:
		return api.Fault{Code: api.ErrSyntax, At: tokens[m.fail].At}
	}
	return api.Fault{}
}
