package vars

import (
	"slices"
	"strconv"
	"strings"
	"testing"

	"gimlet/api"
	"gimlet/dice"
	"gimlet/lines"
	"gimlet/rope"
)

func of(t *testing.T, s string) lines.Lines {
	t.Helper()
	r, e := rope.New(dice.New(), s)
	if e != api.OK {
		t.Fatal(e)
	}
	return lines.Of(r)
}

func pairs(l ...string) []api.Pair {
	var all []api.Pair
	for i := 0; i < len(l); i += 2 {
		all = append(all, api.Pair{Name: l[i], Value: l[i+1]})
	}
	return all
}

func TestP23_1Known(t *testing.T) {
	names := strings.Fields(`TM_SELECTED_TEXT TM_CURRENT_LINE TM_CURRENT_WORD TM_LINE_INDEX TM_LINE_NUMBER TM_FILENAME
		TM_FILENAME_BASE TM_DIRECTORY TM_FILEPATH CLIPBOARD WORKSPACE_NAME RANDOM RANDOM_HEX UUID CURRENT_YEAR CURRENT_MONTH
		CURRENT_DATE CURRENT_HOUR CURRENT_MINUTE CURRENT_SECOND INDENT`)
	for _, n := range names {
		if !Known(n) || Known(n+"_") || Known(strings.ToLower(n)) {
			t.Errorf("%s is known", n)
		}
	}
	if len(names) != 21 || Known("") || Known("X") || Known("TM_") {
		t.Error("unknown names")
	}
}

func TestP23_1SetGet(t *testing.T) {
	env := pairs("A", "1", "B", "2", "A", "3")
	kept := slices.Clone(env)
	if got, e := Set("A", "x", env...); e != api.OK || !slices.Equal(got, pairs("A", "x", "B", "2", "A", "3")) {
		t.Errorf("Set of a name that is there: %v", got)
	}
	if got, e := Set("C", "", env[:2]...); e != api.OK || !slices.Equal(got, pairs("A", "1", "B", "2", "C", "")) {
		t.Errorf("Set of a new name: %v", got)
	}
	if !slices.Equal(env, kept) {
		t.Error("R4: the argument is changed")
	}
	if got, e := Set("C", "4"); e != api.OK || !slices.Equal(got, pairs("C", "4")) {
		t.Errorf("Set in an empty environment: %v", got)
	}
	if v, ok := Get("A", env...); v != "1" || !ok {
		t.Errorf("Get: %q", v)
	}
	if v, ok := Get("a", env...); v != "" || ok {
		t.Errorf("Get of a name that is not there: %q", v)
	}
	if v, ok := Get("A"); v != "" || ok {
		t.Error("Get in an empty environment")
	}
}

func TestP23_1SetRefused(t *testing.T) {
	var full []api.Pair
	for i := range api.MaxVars {
		full, _ = Set("V"+strconv.Itoa(i), "", full...)
	}
	big := strings.Repeat("x", api.MaxDoc)
	for _, c := range []struct {
		name, value string
		env         []api.Pair
		want        api.Errno
	}{
		{"9a", big + "x", full, api.ErrArg}, {"", "", nil, api.ErrArg}, {strings.Repeat("a", 65), "", nil, api.ErrArg}, {"A", big + "x", full, api.ErrSize},
		{"A", big, full, api.ErrFull}, {"V63", big, full, api.OK}, {"V0", big, full, api.OK}, {"V1", big, full, api.OK}, {"A", big, full[:63], api.OK}, {"A", "", append(full, api.Pair{}), api.ErrFull},
	} {
		if got, e := Set(c.name, c.value, c.env...); e != c.want || e != api.OK && got != nil {
			t.Errorf("Set of %q: %d, not %d", c.name, e, c.want)
		}
	}
}

func TestP23_2Place(t *testing.T) {
	for _, c := range []struct {
		text         string
		anchor, head int
		env, want    []api.Pair
	}{
		{"ab cd", 4, 4, nil, pairs("TM_CURRENT_LINE", "ab cd", "TM_CURRENT_WORD", "cd", "TM_LINE_INDEX", "0", "TM_LINE_NUMBER", "1")},
		{"ab cd", 3, 1, nil, pairs("TM_SELECTED_TEXT", "b ", "TM_CURRENT_LINE", "ab cd", "TM_CURRENT_WORD", "ab", "TM_LINE_INDEX", "0", "TM_LINE_NUMBER", "1")},
		{"a\n b-é_9\n", 1, 4, pairs("Q", "1"), pairs("TM_SELECTED_TEXT", "\n b", "TM_CURRENT_LINE", " b-é_9", "TM_CURRENT_WORD", "b", "TM_LINE_INDEX", "1", "TM_LINE_NUMBER", "2", "Q", "1")},
		{"a\n b-é_9\n", 6, 6, nil, pairs("TM_CURRENT_LINE", " b-é_9", "TM_CURRENT_WORD", "é_9", "TM_LINE_INDEX", "1", "TM_LINE_NUMBER", "2")},
		{"a\n b-é_9\n", 9, 9, nil, pairs("TM_CURRENT_LINE", " b-é_9", "TM_CURRENT_WORD", "é_9", "TM_LINE_INDEX", "1", "TM_LINE_NUMBER", "2")},
		{"a\n", 2, 2, nil, pairs("TM_CURRENT_LINE", "", "TM_LINE_INDEX", "1", "TM_LINE_NUMBER", "2")},
		{"-a-", 1, 2, nil, pairs("TM_SELECTED_TEXT", "a", "TM_CURRENT_LINE", "-a-", "TM_CURRENT_WORD", "a", "TM_LINE_INDEX", "0", "TM_LINE_NUMBER", "1")},
		{"a - b", 2, 2, nil, pairs("TM_CURRENT_LINE", "a - b", "TM_LINE_INDEX", "0", "TM_LINE_NUMBER", "1")},
		{"", 0, 0, pairs("TM_FILEPATH", "/a/b.c.go", "TM_FILEPATH", "x"), pairs("TM_CURRENT_LINE", "", "TM_LINE_INDEX", "0", "TM_LINE_NUMBER", "1",
			"TM_FILENAME", "b.c.go", "TM_FILENAME_BASE", "b.c", "TM_DIRECTORY", "/a", "TM_FILEPATH", "/a/b.c.go", "TM_FILEPATH", "x")},
	} {
		kept := slices.Clone(c.env)
		got, e := Place(of(t, c.text), api.Sel{Anchor: c.anchor, Head: c.head}, c.env...)
		if e != api.OK || !slices.Equal(got, c.want) || !slices.Equal(c.env, kept) {
			t.Errorf("Place of %q, %d to %d: %v", c.text, c.anchor, c.head, got)
		}
	}
}

func TestP23_2Paths(t *testing.T) {
	for path, want := range map[string][3]string{
		"": {"", "", ""}, "a": {"a", "a", ""}, "a.b": {"a.b", "a", ""}, ".b": {".b", ".b", ""}, "/": {"", "", ""}, "x/": {"", "", "x"}, "/.a.b": {".a.b", ".a", ""},
		"x.y/z": {"z", "z", "x.y"}, "a.": {"a.", "a", ""}, "//a": {"a", "a", "/"}, "a..b": {"a..b", "a.", ""},
	} {
		env, _ := Place(of(t, ""), api.Sel{}, api.Pair{Name: "TM_FILEPATH", Value: path})
		name, _ := Get("TM_FILENAME", env...)
		base, _ := Get("TM_FILENAME_BASE", env...)
		directory, ok := Get("TM_DIRECTORY", env...)
		if got := [3]string{name, base, directory}; got != want || !ok {
			t.Errorf("%q: %q", path, got)
		}
	}
}

func TestP23_2Refused(t *testing.T) {
	for _, c := range []struct {
		l    lines.Lines
		s    api.Sel
		want api.Errno
	}{
		{lines.Of(nil), api.Sel{Anchor: -1}, api.ErrNil}, {of(t, "ab"), api.Sel{Anchor: -1, Head: 1}, api.ErrRange},
		{of(t, "ab"), api.Sel{Anchor: 1, Head: 3}, api.ErrRange}, {of(t, "ab"), api.Sel{Anchor: 3, Head: 1}, api.ErrRange},
	} {
		if got, e := Place(c.l, c.s, pairs("A", "b")...); got != nil || e != c.want {
			t.Errorf("Place of %v: %v, %d", c.s, got, e)
		}
	}
}
