package tests

import (
	"math/rand"
	"regexp"
	"strings"
	"testing"

	"loop.example/s0035/impl"
)

// theGrammar is the document's, with ' around the signs and a rule a line.
const theGrammar = `
query  := select { UNION ALL select }
select := SELECT [ DISTINCT ] scalar { ',' scalar } tail
tail   := FROM source { ',' source } [ WHERE cond ]
source := name [ name ]
scalar := number | NULL | name '.' place | '(' SELECT agg tail ')'
agg    := COUNT '(' '*' ')' | COUNT '(' scalar ')' | MIN '(' scalar ')' | MAX '(' scalar ')'
cond   := conj { OR conj }
conj   := prim { AND prim }
prim   := NOT prim | '(' cond ')' | EXISTS '(' query ')' | scalar IS [ NOT ] NULL | scalar [ NOT ] IN '(' query ')' | scalar comp <ANY|ALL> '(' query ')' | scalar comp scalar
comp   := '=' | '<>' | '<' | '<=' | '>' | '>='
`

// places is a set of places in a list of tokens.
type places map[int]bool

// reader finds all the ends that a rule of the grammar can have, with no look ahead and no choice.
type reader struct {
	rules  map[string][]string
	tokens []string
	known  map[string]map[int]places
}

func newReader(tokens []string) *reader {
	r := &reader{rules: map[string][]string{}, tokens: tokens, known: map[string]map[int]places{}}
	for _, line := range strings.Split(strings.TrimSpace(theGrammar), "\n") {
		name, body, _ := strings.Cut(line, ":=")
		r.rules[strings.TrimSpace(name)] = strings.Fields(body)
	}
	return r
}

func (r *reader) rule(name string, at int) places {
	if r.known[name] == nil {
		r.known[name] = map[int]places{}
	}
	if got, ok := r.known[name][at]; ok {
		return got
	}
	out := places{}
	var alt []string
	for _, item := range append(r.rules[name], "|") {
		if item != "|" {
			alt = append(alt, item)
			continue
		}
		for end := range r.row(alt, places{at: true}) {
			out[end] = true
		}
		alt = nil
	}
	r.known[name][at] = out
	return out
}

// row reads items one behind the other from any of some places.
func (r *reader) row(items []string, from places) places {
	for len(items) > 0 {
		switch items[0] {
		case "[", "{":
			end := map[string]int{"[": indexOf(items, "]"), "{": indexOf(items, "}")}[items[0]]
			from = r.maybe(items[1:end], from, items[0] == "{")
			items = items[end+1:]
		default:
			from = r.item(items[0], from)
			items = items[1:]
		}
	}
	return from
}

func indexOf(items []string, item string) int {
	for i := range items {
		if items[i] == item {
			return i
		}
	}
	return -1
}

// maybe reads some items or none of them, and again where it may.
func (r *reader) maybe(items []string, from places, again bool) places {
	all := places{}
	for at := range from {
		all[at] = true
	}
	for next := r.row(items, from); len(next) > 0; next = r.row(items, next) {
		for at := range next {
			all[at] = true
		}
		if !again {
			break
		}
	}
	return all
}

func (r *reader) item(item string, from places) places {
	out := places{}
	for at := range from {
		if r.rules[item] != nil {
			for end := range r.rule(item, at) {
				out[end] = true
			}
		} else if at < len(r.tokens) && fits(item, r.tokens[at]) {
			out[at+1] = true
		}
	}
	return out
}

var keywordWords = strings.Fields(`SELECT DISTINCT FROM WHERE UNION ALL ANY AND OR NOT EXISTS
	IN IS NULL COUNT MIN MAX`)

func isKeywordWord(word string) bool {
	return indexOf(keywordWords, word) >= 0
}

var (
	wordForm   = regexp.MustCompile(`^[A-Za-z][A-Za-z0-9_]*$`)
	numberForm = regexp.MustCompile(`^-?[0-9]{1,18}$`)
	placeForm  = regexp.MustCompile(`^([0-9]{1,18}|-0{1,18})$`)
	tokenForm  = regexp.MustCompile(`^(?:([A-Za-z][A-Za-z0-9_]*)|(-?[0-9]+)|(<>|<=|>=|[(),.*=<>]))`)
)

func fits(item string, token string) bool {
	switch item {
	case "name":
		return wordForm.MatchString(token) && !isKeywordWord(token)
	case "number":
		return numberForm.MatchString(token)
	case "place":
		return placeForm.MatchString(token)
	case "<ANY|ALL>":
		return token == "ANY" || token == "ALL"
	}
	return strings.Trim(item, "'") == token
}

// cut gives the tokens of a text, and false when it is not made of them.
func cut(text string) ([]string, bool) {
	var out []string
	for {
		text = strings.TrimLeft(text, " \n\t")
		if text == "" {
			return out, true
		}
		m := tokenForm.FindStringSubmatch(text)
		if m == nil || len(m[1]) > impl.MaxName || len(strings.TrimPrefix(m[2], "-")) > 18 {
			return nil, false
		}
		out = append(out, m[0])
		text = text[len(m[0]):]
	}
}

// codeWant is the code of a text whose tree is small.
func codeWant(text string) int {
	if len(text) > impl.MaxText {
		return 1
	}
	tokens, ok := cut(text)
	if !ok {
		return 2
	}
	for i := range tokens {
		front := strings.Join(tokens[:i+1], " ")
		if strings.Count(front, "(")-strings.Count(front, ")") > impl.MaxOpen {
			return 3
		}
	}
	if !newReader(tokens).rule("query", 0)[len(tokens)] {
		return 4
	}
	return 0
}

// Promise 4: the grammar. Token lists near to queries are read or refused as the grammar, read literally, says.
func TestParseFollowsGrammar(t *testing.T) {
	r := rand.New(rand.NewSource(4))
	others := strings.Fields("SELECT DISTINCT FROM WHERE UNION ALL ANY AND OR NOT EXISTS IN IS NULL COUNT MIN MAX " +
		"( ) , . * = <> < <= > >= 1 -1 0 -0 r s select - _ ; ! 1234567890123456789")
	read, refused := 0, 0
	for round := 0; round < 6000; round++ {
		tokens := speller{r: r}.query(grower{r: r}.query(2 + r.Intn(4)))
		for len(tokens) > 60 {
			tokens = speller{r: r}.query(grower{r: r}.query(2 + r.Intn(4)))
		}
		for change := r.Intn(3); change > 0; change-- {
			at := r.Intn(len(tokens))
			switch r.Intn(4) {
			case 0:
				tokens = append(tokens[:at:at], tokens[at+1:]...)
			case 1:
				tokens[at] = others[r.Intn(len(others))]
			case 2:
				tokens = append(tokens[:at:at], append([]string{others[r.Intn(len(others))]}, tokens[at:]...)...)
			case 3:
				to := r.Intn(len(tokens))
				tokens[at], tokens[to] = tokens[to], tokens[at]
			}
		}
		text := joined(r, tokens)
		want := codeWant(text)
		wantCode(t, text, want)
		if want == 0 {
			read++
		} else {
			refused++
		}
	}
	if read < 1000 || refused < 1000 {
		t.Errorf("%d read and %d refused: too few to tell", read, refused)
	}
}

// Promise 4: what ends too early is refused, wherever it ends, and so is anything behind the end.
func TestParsePartsOfQueries(t *testing.T) {
	text := "SELECT DISTINCT a.1 , ( SELECT COUNT ( * ) FROM s b ) FROM r a , s WHERE NOT ( 1 = ANY ( SELECT 2 FROM t ) OR a.1 IS NOT NULL ) " +
		"AND 3 NOT IN ( SELECT 1 FROM r UNION ALL SELECT NULL FROM r ) UNION ALL SELECT 1 , -2 FROM r WHERE EXISTS ( SELECT 1 FROM r )"
	wantCode(t, text, 0)
	tokens, _ := cut(text)
	for i := range tokens {
		front := strings.Join(tokens[:i], " ")
		wantCode(t, front, codeWant(front))
		back := strings.Join(tokens[i:], " ")
		wantCode(t, back, codeWant(back))
	}
	for _, more := range []string{"SELECT", "1", "r", ")", "(", ",", ".", "*", "=", "AND", "AND 1 = 1", "UNION", "UNION ALL", "WHERE 1 = 1", "SELECT 1 FROM r", "NULL"} {
		both := text + " " + more
		want := codeWant(both)
		if want == 0 && more != "AND 1 = 1" {
			t.Fatalf("%q is no end", more)
		}
		wantCode(t, both, want)
	}
}
