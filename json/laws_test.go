package json_test

import (
	"fmt"
	"math/rand"
	"slices"
	"strings"
	"testing"

	"voyage/api"
	"voyage/dec"
	"voyage/json"
)

// utf8Letter is the letter whose bytes, in their shortest form, begin s, and how many they are: 0, if there is none. Worked out from the bits.
func utf8Letter(s string) (rune, int) {
	least := [...]rune{0, 0, 0x80, 0x800, 0x10000}
	size, letter := 0, rune(0)
	switch {
	case s == "":
		return 0, 0
	case s[0]>>7 == 0:
		return rune(s[0]), 1
	case s[0]>>5 == 6:
		size, letter = 2, rune(s[0]&0x1f)
	case s[0]>>4 == 14:
		size, letter = 3, rune(s[0]&0x0f)
	case s[0]>>3 == 30:
		size, letter = 4, rune(s[0]&0x07)
	}
	if size == 0 || len(s) < size {
		return 0, 0
	}
	for i := 1; i < size; i++ {
		if s[i]>>6 != 2 {
			return 0, 0
		}
		letter = letter*64 + rune(s[i]&0x3f)
	}
	if letter < least[size] || letter > 0x10ffff || letter >= 0xd800 && letter <= 0xdfff {
		return 0, 0
	}
	return letter, size
}

// plainSaid is what a text says.
func plainSaid(s string) string {
	var out []rune
	for s != "" {
		letter, size := utf8Letter(s)
		if size == 0 {
			letter, size = 0xfffd, 1
		}
		out = append(out, letter)
		s = s[size:]
	}
	return string(out)
}

// plainNorm is the one form of a value, by the chapter's words.
func plainNorm(v api.Value) api.Value {
	switch v.Kind {
	case api.Truth:
		return truth(v.Truth)
	case api.Number:
		return api.Value{Kind: api.Number, Num: dec.Norm(v.Num)}
	case api.Text:
		return text(plainSaid(v.Text))
	case api.List:
		out := list()
		for _, e := range v.List {
			out.List = append(out.List, plainNorm(e))
		}
		return out
	case api.Object:
		byName := map[string]api.Value{}
		names := []string{}
		for _, f := range v.Fields {
			name := plainSaid(f.Name)
			if _, there := byName[name]; !there {
				byName[name] = plainNorm(f.Value)
				names = append(names, name)
			}
		}
		slices.Sort(names)
		out := object()
		for _, name := range names {
			out.Fields = append(out.Fields, field(name, byName[name]))
		}
		return out
	}
	return null()
}

// plainDepth is the depth of a value in the one form.
func plainDepth(v api.Value) int {
	deepest := -1
	for _, e := range v.List {
		deepest = max(deepest, plainDepth(e))
	}
	for _, f := range v.Fields {
		deepest = max(deepest, plainDepth(f.Value))
	}
	if v.Kind != api.List && v.Kind != api.Object {
		return 0
	}
	return max(deepest, 0) + 1
}

// anyText has letters of each length, letters that are told in some way of their own, and bytes that begin none.
func anyText(r *rand.Rand) string {
	pieces := []string{"a", "b", "é", "\ufffd", "\xff", "\x80", "\xe2\x82", "\"", "\\", "/", "\n", "\x00", "\x1f", "\x7f", "\u2028", "\uffff", "\U00010000", "\U0010ffff", "\xed\xa0\x80", "u0061", " "}
	out := ""
	for range r.Intn(4) {
		out += pieces[r.Intn(len(pieces))]
	}
	return out
}

// anyValue may be told in any way: with kinds that are none, with what its kind doesn't name, with names that come twice.
func anyValue(r *rand.Rand, deep int) api.Value {
	v := api.Value{Kind: r.Intn(6)}
	if r.Intn(20) == 0 {
		v.Kind = r.Intn(40) - 20
	}
	odd := r.Intn(6) == 0
	if v.Kind == api.Truth || odd {
		v.Truth = r.Intn(2) == 0
	}
	if v.Kind == api.Number || odd {
		digits := []string{"", "0", "1", "10", "012", "1x5", "700", "123456789012345678901234567890"}
		v.Num = api.Dec{Neg: r.Intn(2) == 0, Digits: digits[r.Intn(len(digits))], Exp: []int{0, 0, 1, -3, 9999, -9999, 10000, r.Intn(100) - 50}[r.Intn(8)]}
	}
	if v.Kind == api.Text || odd {
		v.Text = anyText(r)
	}
	if deep == 0 {
		return v
	}
	if v.Kind == api.List || odd {
		for range r.Intn(4) {
			v.List = append(v.List, anyValue(r, deep-1))
		}
	}
	if v.Kind == api.Object || odd {
		for range r.Intn(5) {
			v.Fields = append(v.Fields, field(anyText(r), anyValue(r, deep-1)))
		}
	}
	return v
}

// P2.1, P2.2: the calls against the chapter's words.
func TestAgainstTheWords(t *testing.T) {
	r := rand.New(rand.NewSource(1))
	for range 20000 {
		v := anyValue(r, 4)
		want := plainNorm(v)
		if got := json.Norm(v); !identical(got, want) {
			t.Fatalf("Norm(%+v): %+v, want %+v", v, got, want)
		}
		if got := json.Depth(v); got != plainDepth(want) {
			t.Fatalf("Depth(%+v): %d", v, got)
		}
		names := []string{"", "a", "zz", "\xff", anyText(r)}
		for _, f := range v.Fields {
			names = append(names, f.Name, plainSaid(f.Name))
		}
		for _, name := range names {
			got, ok := json.Get(v, name)
			i := slices.IndexFunc(want.Fields, func(f api.Field) bool { return f.Name == plainSaid(name) })
			if ok != (i >= 0) || i >= 0 && !identical(got, want.Fields[i].Value) || i < 0 && !identical(got, null()) {
				t.Fatalf("Get(%+v, %q): %+v, %v", v, name, got, ok)
			}
		}
		for i := -1; i <= len(v.List); i++ {
			got, ok := json.At(v, i)
			there := i >= 0 && i < len(want.List)
			if ok != there || there && !identical(got, want.List[i]) || !there && !identical(got, null()) {
				t.Fatalf("At(%+v, %d): %+v, %v", v, i, got, ok)
			}
		}
	}
}

// P2.8: what is printed is read as the same; Same is told by Print.
func TestParseOfPrint(t *testing.T) {
	r := rand.New(rand.NewSource(2))
	texts := map[string]api.Value{}
	last := null()
	for i := range 20000 {
		v := anyValue(r, 1+i%5)
		s := json.Print(v)
		got, err := json.Parse(s)
		if err != nil || !identical(got, plainNorm(v)) {
			t.Fatalf("Parse(%s): %+v, %v", s, got, err)
		}
		if json.Print(got) != s {
			t.Fatalf("%s: printed again: %s", s, json.Print(got))
		}
		if before, there := texts[s]; there && (!json.Same(before, v) || !identical(plainNorm(before), plainNorm(v))) {
			t.Fatalf("%+v and %+v: one text, %s", before, v, s)
		}
		if json.Same(v, last) != (s == json.Print(last)) || json.Same(v, last) != identical(plainNorm(v), plainNorm(last)) {
			t.Fatalf("Same(%+v, %+v): %v", v, last, json.Same(v, last))
		}
		texts[s], last = v, v
	}
}

// P2.8: at the bounds of what is sound, and one beyond.
func TestParseOfPrintAtTheBounds(t *testing.T) {
	for _, v := range []api.Value{text(times(api.MaxText-2, "a")), text(times((api.MaxText-2)/6, "\x01") + "aa"), text(times((api.MaxText-2)/3, "\xff")), nest(number("1", 0), api.MaxDepth, ""), nest(list(), api.MaxDepth-1, "\xff"), nest(nest(object(), 31, "a"), 32, "")} {
		if got, err := json.Parse(json.Print(v)); err != nil || !identical(got, plainNorm(v)) {
			t.Errorf("Parse of Print: %.80v, %v", got, err)
		}
	}
	refuses(t, json.Print(text(times(api.MaxText-1, "a"))), 0, api.ErrLong)
	refuses(t, json.Print(nest(list(), api.MaxDepth, "")), api.MaxDepth, api.ErrDeep)

	tens := "[" + times(api.MaxText/3-1, "10,") + "10]"
	got, err := json.Parse(tens)
	if err != nil || len(json.Print(got)) <= api.MaxText {
		t.Errorf("what is read may be printed as more: %d, %v", len(json.Print(got)), err)
	}
}

// styled tells a value in the one form in one of the many ways that there are.
func styled(r *rand.Rand, v api.Value) string {
	gap := func() string { return []string{"", "", "", " ", "\t", "\r\n", "  \n"}[r.Intn(7)] }
	row := func(open string, items []string, end string) string {
		if len(items) == 0 {
			return open + gap() + end
		}
		return open + gap() + strings.Join(items, gap()+","+gap()) + gap() + end
	}
	core := json.Print(v)
	switch v.Kind {
	case api.Number:
		n := v.Num
		sign := map[bool]string{true: "-"}[n.Neg]
		if n.Digits != "" {
			core = []string{core, fmt.Sprintf("%s%s0.00E%+d", sign, n.Digits, n.Exp-1), fmt.Sprintf("%s0.0%se%d", sign, n.Digits, n.Exp+len(n.Digits)+1), fmt.Sprintf("%s%s.%se%03d", sign, n.Digits[:1], n.Digits[1:]+"0", n.Exp+len(n.Digits)-1)}[r.Intn(4)]
		} else {
			core = []string{"0", "-0", "0.00", "-0e77777", "0E-5"}[r.Intn(5)]
		}
	case api.Text:
		core = styledText(r, v.Text)
	case api.List:
		var items []string
		for _, e := range v.List {
			items = append(items, styled(r, e))
		}
		core = row("[", items, "]")
	case api.Object:
		var items []string
		for _, f := range v.Fields {
			items = append(items, gap()+styledText(r, f.Name)+gap()+":"+styled(r, f.Value))
		}
		r.Shuffle(len(items), func(i, j int) { items[i], items[j] = items[j], items[i] })
		core = row("{", items, "}")
	}
	return gap() + core + gap()
}

func styledText(r *rand.Rand, s string) string {
	short := map[rune]string{'"': `\"`, '\\': `\\`, '/': `\/`, '\b': `\b`, '\f': `\f`, '\n': `\n`, '\r': `\r`, '\t': `\t`}
	out := ""
	for _, letter := range s {
		plain := letter >= 0x20 && letter != '"' && letter != '\\'
		switch way := r.Intn(3); {
		case way == 0 && plain:
			out += string(letter)
		case way == 1 && short[letter] != "":
			out += short[letter]
		case letter >= 0x10000:
			out += fmt.Sprintf(`\u%04x\u%04X`, 0xd800+(letter-0x10000)/0x400, 0xdc00+letter%0x400)
		case r.Intn(2) == 0:
			out += fmt.Sprintf(`\u%04x`, letter)
		default:
			out += fmt.Sprintf(`\u%04X`, letter)
		}
	}
	return `"` + out + `"`
}

// P2.4 to P2.6: one value told in many ways.
func TestParseOfManyWays(t *testing.T) {
	r := rand.New(rand.NewSource(3))
	for i := range 20000 {
		v := plainNorm(anyValue(r, 1+i%4))
		s := styled(r, v)
		if got, err := json.Parse(s); err != nil || !identical(got, v) {
			t.Fatalf("Parse(%q): %+v, %v, want %+v", s, got, err, v)
		}
	}
}

// lists are all lists of a value, with their spare room.
func lists(v api.Value, values *[][]api.Value, fields *[][]api.Field) {
	*values = append(*values, v.List[:cap(v.List)])
	*fields = append(*fields, v.Fields[:cap(v.Fields)])
	for _, e := range v.List {
		lists(e, values, fields)
	}
	for _, f := range v.Fields {
		lists(f.Value, values, fields)
	}
}

// apart tells whether no two lists of these values share an element.
func apart(vs ...api.Value) bool {
	var values [][]api.Value
	var fields [][]api.Field
	for _, v := range vs {
		lists(v, &values, &fields)
	}
	seenValue, seenField := map[*api.Value]bool{}, map[*api.Field]bool{}
	for _, l := range values {
		for i := range l {
			if seenValue[&l[i]] {
				return false
			}
			seenValue[&l[i]] = true
		}
	}
	for _, l := range fields {
		for i := range l {
			if seenField[&l[i]] {
				return false
			}
			seenField[&l[i]] = true
		}
	}
	return true
}

// P2.8, R3: what is answered is new memory; what is handed in stays.
func TestNewMemory(t *testing.T) {
	r := rand.New(rand.NewSource(4))
	for range 3000 {
		v := anyValue(r, 4)
		before := fmt.Sprintf("%#v", v)
		element, _ := json.At(v, 0)
		first, name := null(), ""
		if len(v.Fields) > 0 {
			name = v.Fields[0].Name
			first, _ = json.Get(v, name)
		}
		norm := json.Norm(v)
		json.Depth(v)
		json.Same(v, norm)
		s := json.Print(v)
		one, _ := json.Parse(s)
		two, _ := json.Parse(s)
		if fmt.Sprintf("%#v", v) != before {
			t.Fatalf("changed: %s", before)
		}
		if !apart(v, norm, element, first, one, two) {
			t.Fatalf("shared memory: %+v", v)
		}
	}
	shared := []api.Value{number("1", 0), list()}
	if !apart(json.Norm(list(list(shared...), list(shared...), object(field("a", list(shared...)), field("b", list(shared...)))))) {
		t.Error("lists that one list stands in twice share memory in the answer")
	}
}

// R4: what is handed in is not kept: what is changed behind a call changes no answer.
func TestNotKept(t *testing.T) {
	inner := []api.Value{number("1", 0)}
	fields := []api.Field{field("b", list(inner...)), field("a", null())}
	v := object(fields...)
	norm := json.Norm(v)
	got, _ := json.Get(v, "b")
	want, wantGot := json.Print(norm), json.Print(got)
	v.Fields[0].Value.List[0] = text("x")
	v.Fields[1] = field("c", truth(true))
	if json.Print(norm) != want || json.Print(got) != wantGot || json.Print(v) != `{"b":["x"],"c":true}` {
		t.Errorf("%s, %s, %s", json.Print(norm), json.Print(got), json.Print(v))
	}
}

// P2.1, P2.2: of many fields with few names it is the first of each that counts, wherever it stands.
func TestManyFieldsFewNames(t *testing.T) {
	r := rand.New(rand.NewSource(6))
	names := []string{"\xff", "\x80", "\ufffd", "a", "b", "", "é", "\xff\xff"}
	for range 50 {
		v := object()
		for i := range 500 {
			v.Fields = append(v.Fields, field(names[r.Intn(len(names))], nest(number(fmt.Sprint(i+1), 0), i%7, "")))
		}
		want := plainNorm(v)
		if got := json.Norm(v); !identical(got, want) {
			t.Fatalf("Norm: %s, want %+v", json.Print(got), want)
		}
		if got, back := json.Depth(v), plainDepth(want); got != back {
			t.Fatalf("Depth: %d, want %d", got, back)
		}
		if !json.Same(v, want) || len(json.Norm(v).Fields) != 6 {
			t.Fatalf("Same: %s", json.Print(v))
		}
	}
}
