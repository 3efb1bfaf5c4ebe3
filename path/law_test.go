package path_test

import (
	"math/rand"
	"slices"
	"testing"

	"armoire/api"
	"armoire/path"
)

// P16.1, P16.3: of texts as they come, what is told is what the document says, and Join of Split is the path.
func TestSplitAsSaid(t *testing.T) {
	source := rand.New(rand.NewSource(16))
	paths := 0
	for range 40000 {
		text := randomText(source)
		if want, is := splitOf(text); is {
			paths++
			wantPath(t, text, want)
		} else {
			wantNoPath(t, text)
		}
	}
	if paths < 4000 || paths > 36000 {
		t.Errorf("of 40000 texts %d are paths: too few or too many to tell anything", paths)
	}
}

// P16.1, P16.3: of lists as they come, what is told is what the document says, and Split of Join is the names.
func TestJoinAsSaid(t *testing.T) {
	source := rand.New(rand.NewSource(17))
	paths := 0
	for range 40000 {
		l := randomList(source, 8)
		if want, is := joinOf(l); is {
			paths++
			wantPath(t, want, l)
		} else {
			wantNoJoin(t, l)
		}
	}
	if paths < 4000 || paths > 36000 {
		t.Errorf("of 40000 lists %d make paths: too few or too many to tell anything", paths)
	}
}

// P16.3: Join of Split is the path, Split of Join the names, of all texts of few bytes of some that matter.
func TestThereAndBack(t *testing.T) {
	bytes := "/a.\x00\xc3\xa4"
	texts := list("")
	for range 5 {
		var next []string
		for _, text := range texts {
			for i := range len(bytes) {
				next = append(next, text+bytes[i:i+1])
			}
		}
		for _, text := range next {
			l, err := path.Split(text)
			want, is := splitOf(text)
			if is != (err == api.OK) {
				t.Fatalf("Split(%q): got %q, %d, want %q, %t", text, l, err, want, is)
			}
			if back, err := path.Join(l); is && (back != text || err != api.OK) {
				t.Fatalf("Join of Split(%q): got %q, %d", text, back, err)
			}
		}
		texts = next
	}
}

// P16.2: of lists as they come.
func TestUnderAsSaid(t *testing.T) {
	source := rand.New(rand.NewSource(18))
	under := 0
	for range 40000 {
		a, b := randomList(source, 3), randomList(source, 9)
		if source.Intn(2) == 0 {
			b = slices.Concat(a, b)
			if len(b) > 0 && source.Intn(4) == 0 {
				b[source.Intn(len(b))] += "x"
			}
		}
		want := underOf(a, b)
		if want {
			under++
		}
		wantUnder(t, a, b, want)
		wantUnder(t, a, a, false)
		wantUnder(t, b, a, underOf(b, a))
	}
	if under < 4000 || under > 36000 {
		t.Errorf("of 40000 lists %d are under others: too few or too many to tell anything", under)
	}
}

// R4: what is handed in is not changed, nor the spare room behind it.
func TestHandedInIsNotChanged(t *testing.T) {
	for _, l := range [][]string{some(3), some(6), some(7), list("a", "", "b"), list("a/b", "c")} {
		room := append(slices.Clone(l), "spare", "room")
		handed := room[:len(l)]
		path.Join(handed)
		path.Under(handed[:2], handed)
		path.Under(handed, handed[:2])
		path.Under(handed, append(slices.Clone(l), "more"))
		if want := append(slices.Clone(l), "spare", "room"); !slices.Equal(room, want) {
			t.Errorf("%q became %q", want, room)
		}
	}
}

// R4, R5: what was told is not changed by what is done later, nor does a change to it change what is told.
func TestAnswersAreNewMemory(t *testing.T) {
	first, _ := path.Split("/a/b/c")
	above, _, _ := path.Parent("/a/b/c")
	again, _ := path.Split("/a/b/c")
	for _, l := range [][]string{first, above} {
		for i := range l[:cap(l)] {
			l[:cap(l)][i] = "x"
		}
	}
	if !slices.Equal(again, list("a", "b", "c")) {
		t.Errorf("what was told became %q", again)
	}
	wantPath(t, "/a/b/c", list("a", "b", "c"))
	root, _ := path.Split("/")
	_ = append(root, "x")
	wantPath(t, "/", nil)

	l := list("a", "b")
	text, _ := path.Join(l)
	l[0] = "x"
	if text != "/a/b" {
		t.Errorf("what was told became %q", text)
	}
	wantPath(t, "/x/b", l)
}

// R5: the same is told of the same, whatever was asked between.
func TestOneAnswer(t *testing.T) {
	for _, between := range list("", "/", "/z", "//", "/a/b/c/d/e/f", "/a/b/c/d/e/f/g") {
		path.Split(between)
		path.Parent(between)
		path.Join(list(between))
		path.Under(list(between), list(between, between))
		wantPath(t, "/a/b", list("a", "b"))
		wantNoPath(t, "/a/")
		wantNoJoin(t, list(""))
		wantUnder(t, list("a"), list("a", "b"), true)
	}
}
