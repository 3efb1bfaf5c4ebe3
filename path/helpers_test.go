package path_test

import (
	"math/rand"
	"slices"
	"strings"
	"testing"

	"armoire/api"
	"armoire/path"
)

var (
	names   = []string{"a", "b", "ab", "abcdefgh", "...", ".a", "a.", "..a", " ", "\x01", "\x7f", "-", "\\", "\n", "\xff", "\x80", "\xff\xff\xff\xff\xff\xff\xff\xff", "\xc3\xa4", "\xe2\x82\xac", "\xf0\x9f\x98\x80", "\xc3", "\xe2\x82", "\xc0\xaf", "\xef\xbf\xbd", "a\xc3", "\xa4a", "\xe2\x82\xac\xe2\x82\xac\xc3\xa4"}
	noNames = []string{"", ".", "..", "\x00", "a\x00", "\x00a", "a\x00b", "abcdefghi", "abcdefgh\x00", "\xe2\x82\xac\xe2\x82\xac\xe2\x82\xac", "\xff\x00", strings.Repeat("\xff", 9), strings.Repeat("a", 61), strings.Repeat("a", 62), strings.Repeat("a", 63), strings.Repeat("a", 64), strings.Repeat("a", 70000)}
)

// isName is what the document says of a name, byte by byte.
func isName(s string) bool {
	return len(s) >= 1 && len(s) <= 8 && strings.IndexByte(s, 0) < 0 && strings.IndexByte(s, '/') < 0 && s != "." && s != ".."
}

// splitOf is what the document says of a path and its names, by the library's means.
func splitOf(text string) ([]string, bool) {
	if text == "/" {
		return nil, true
	}
	parts := strings.Split(text, "/")
	is := len(text) <= 64 && parts[0] == "" && len(parts) >= 2 && len(parts) <= 7
	for _, part := range parts[1:] {
		is = is && isName(part)
	}
	return parts[1:], is
}

// joinOf is what the document says of the path of some names.
func joinOf(l []string) (string, bool) {
	text := ""
	for _, name := range l {
		if !isName(name) {
			return "", false
		}
		text += "/" + name
	}
	if text == "" {
		return "/", true
	}
	return text, len(l) <= 6
}

// underOf is what the document says of two lists, member by member.
func underOf(a, b []string) bool {
	for i := range a {
		if i >= len(b) || a[i] != b[i] {
			return false
		}
	}
	return len(b) > len(a)
}

func list(l ...string) []string { return l }

// some is some names, so many of them, each another one.
func some(n int) []string {
	l := make([]string, n)
	for i := range l {
		l[i] = "n" + string(rune('a'+i))
	}
	return l
}

// wantPath looks at all that is told of a path that has these names.
func wantPath(t *testing.T, text string, want []string) {
	t.Helper()
	if got, err := path.Split(text); !slices.Equal(got, want) || err != api.OK {
		t.Errorf("Split(%q): got %q, %d, want %q", text, got, err, want)
	}
	if got, err := path.Join(want); got != text || err != api.OK {
		t.Errorf("Join(%q): got %q, %d, want %q", want, got, err, text)
	}
	if len(want) == 0 {
		wantNoParent(t, text)
		return
	}
	last := len(want) - 1
	if got, name, err := path.Parent(text); !slices.Equal(got, want[:last]) || name != want[last] || err != api.OK {
		t.Errorf("Parent(%q): got %q, %q, %d, want %q, %q", text, got, name, err, want[:last], want[last])
	}
}

func wantNoParent(t *testing.T, text string) {
	t.Helper()
	if got, name, err := path.Parent(text); len(got) != 0 || name != "" || err != api.ErrPath {
		t.Errorf("Parent(%q): got %q, %q, %d, want nothing, ErrPath", text, got, name, err)
	}
}

func wantNoPath(t *testing.T, text string) {
	t.Helper()
	if got, err := path.Split(text); len(got) != 0 || err != api.ErrPath {
		t.Errorf("Split(%q): got %q, %d, want nothing, ErrPath", text, got, err)
	}
	wantNoParent(t, text)
}

func wantNoJoin(t *testing.T, l []string) {
	t.Helper()
	if got, err := path.Join(l); got != "" || err != api.ErrPath {
		t.Errorf("Join(%q): got %q, %d, want nothing, ErrPath", l, got, err)
	}
}

func wantUnder(t *testing.T, a, b []string, want bool) {
	t.Helper()
	if got := path.Under(a, b); got != want {
		t.Errorf("Under(%q, %q): got %t", a, b, got)
	}
}

// randomText is one of few signs, most of which matter: so it is a path often enough, and often nearly one.
func randomText(source *rand.Rand) string {
	signs := list("/", "/", "/", "a", "b", ".", "\x00", "\xff", "\xc3", "\xc3\xa4", "\xe2\x82\xac", "/a", "/b", "/abcdefg", "/..a")
	var text strings.Builder
	if source.Intn(4) > 0 {
		text.WriteString("/a")
	}
	for range source.Intn(9) {
		text.WriteString(signs[source.Intn(len(signs))])
	}
	return text.String()
}

// randomList is of few members: so one is often the beginning of another one.
func randomList(source *rand.Rand, most int) []string {
	members := list("a", "b", "a", "b", "abcdefgh", "\xff", "\xc3\xa4", "...")
	if source.Intn(4) == 0 {
		members = append(members, "", "..", "a/b", "abcdefghi", "\x00")
	}
	var l []string
	for range source.Intn(most + 1) {
		l = append(l, members[source.Intn(len(members))])
	}
	return l
}
