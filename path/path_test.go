package path_test

import (
	"strings"
	"testing"
)

// P16.1: the document's examples.
func TestExamples(t *testing.T) {
	wantPath(t, "/a/b", list("a", "b"))
	wantPath(t, "/", nil)
	for _, text := range list("/a/", "a", "", "//") {
		wantNoPath(t, text)
	}
	wantUnder(t, list("a"), list("a", "b"), true)
	wantUnder(t, list("a"), list("a"), false)
}

// P16.1: the root is a path of no names, and has no parent.
func TestRoot(t *testing.T) {
	wantPath(t, "/", nil)
	wantPath(t, "/", list())
	wantNoParent(t, "/")
}

// P16.1: each name is taken: alone, ahead of others, between and behind them.
func TestNames(t *testing.T) {
	for _, name := range names {
		wantPath(t, "/"+name, list(name))
		wantPath(t, "/"+name+"/b", list(name, "b"))
		wantPath(t, "/a/"+name, list("a", name))
		wantPath(t, "/a/"+name+"/b", list("a", name, "b"))
		wantPath(t, strings.Repeat("/"+name, 6), list(name, name, name, name, name, name))
	}
}

// P16.1: what is no name is refused wherever it stands.
func TestNoNames(t *testing.T) {
	for _, name := range noNames {
		if name != "" {
			wantNoPath(t, "/"+name)
		}
		wantNoPath(t, "/"+name+"/b")
		wantNoPath(t, "/a/"+name)
		wantNoPath(t, "/a/"+name+"/b")
		wantNoPath(t, "/a/b/c/d/e/"+name)
		wantNoPath(t, "/"+name+"/b/c/d/e/f")
		wantNoJoin(t, list(name))
		wantNoJoin(t, list(name, "b"))
		wantNoJoin(t, list("a", name))
		wantNoJoin(t, list("a", name, "b"))
		wantNoJoin(t, list("a", "b", "c", "d", "e", name))
		wantNoJoin(t, list(name, "b", "c", "d", "e", "f"))
	}
}

// P16.1: a '/' in a name is refused by Join, though what it would make were a path.
func TestSlashInName(t *testing.T) {
	for _, name := range list("/", "//", "a/", "/a", "a/b", "abcdefg/", "/abcdefg", "\xc3/", "/\xa4", "\xe2\x82/\xac", "abcdefgh/", "abcdefgh/a") {
		wantNoJoin(t, list(name))
		wantNoJoin(t, list("a", name))
		wantNoJoin(t, list(name, "b"))
		wantNoJoin(t, list("a", name, "b"))
	}
}

// P16.1: a '/' stands ahead of each name, and nowhere else.
func TestSlashes(t *testing.T) {
	for _, text := range list("", "a", "abc", "a/", "a/b", "a//", " /a", "\x00/a", ".", "..", "./a", "../a", "\xff", "\xc3/a", "\xef\xbc\x8fa", "\\a",
		"//", "///", "////////", "//a", "///a", "/a/", "/a//", "/a//b", "/a/b/", "/a/b//", "/a///b", "/a/b/c/d/e/f/", "//a/b/c/d/e/f", "/a/b/c//d/e/f",
		"/.", "/..", "/./", "/../", "/./a", "/../a", "/a/.", "/a/..", "/a/./b", "/a/../b", "/\x00", "/a\x00", "/a\x00/b") {
		wantNoPath(t, text)
	}
}

// P16.1: signs of more than one byte and bytes that are no UTF-8 part names nowhere but at a '/'.
func TestSigns(t *testing.T) {
	wantPath(t, "/\xc3/\xa4", list("\xc3", "\xa4"))
	wantPath(t, "/\xe2\x82/\xac", list("\xe2\x82", "\xac"))
	wantPath(t, "/\xe2/\x82/\xac", list("\xe2", "\x82", "\xac"))
	wantPath(t, "/\xf0\x9f\x98\x80/\xf0\x9f\x98/\x80", list("\xf0\x9f\x98\x80", "\xf0\x9f\x98", "\x80"))
	wantPath(t, "/\xc0\xaf/\xe0\x80\xaf", list("\xc0\xaf", "\xe0\x80\xaf"))
	wantPath(t, "/\xff\xfe/\xff", list("\xff\xfe", "\xff"))
	wantPath(t, "/\xef\xbc\x8fa/b", list("\xef\xbc\x8fa", "b"))
	wantPath(t, "/\xc3\xa4\xc3\xa4\xc3\xa4\xc3\xa4/\xe2\x82\xac", list("\xc3\xa4\xc3\xa4\xc3\xa4\xc3\xa4", "\xe2\x82\xac"))
	wantNoPath(t, "/\xc3\xa4\xc3\xa4\xc3\xa4\xc3\xa4a")
	wantNoPath(t, "\xc3\xa4")
	wantNoPath(t, "\xc3\xa4/a")
	wantNoPath(t, "/\xc3//\xa4")
	wantNoPath(t, "/\xc3/")
}

// P16.1: up to six names make a path, a seventh is refused.
func TestDeep(t *testing.T) {
	for n := range 7 {
		text := ""
		for _, name := range some(n) {
			text += "/" + name
		}
		if n == 0 {
			text = "/"
		}
		wantPath(t, text, some(n))
	}
	for n := 7; n < 26; n++ {
		wantNoPath(t, "/"+strings.Join(some(n), "/"))
		wantNoJoin(t, some(n))
	}
	wantNoJoin(t, make([]string, 100000))
	wantNoJoin(t, strings.Split(strings.Repeat("a", 100000), ""))
}

// P16.1: the longest path has 54 bytes, of six names of 8; what has 64 bytes or 65 is none, however it is parted.
func TestLong(t *testing.T) {
	wide := "abcdefgh"
	wantPath(t, strings.Repeat("/"+wide, 6), list(wide, wide, wide, wide, wide, wide))
	wantNoPath(t, strings.Repeat("/"+wide, 6)+"i")
	wantNoPath(t, strings.Repeat("/"+wide, 7))
	for n := 55; n < 130; n++ {
		for part := 1; part <= n; part++ {
			text := strings.Repeat("/"+strings.Repeat("a", part), n)
			wantNoPath(t, text[:n])
		}
	}
	for _, n := range []int{64, 65, 66, 70000, 1 << 20} {
		wantNoPath(t, strings.Repeat("/", n))
		wantNoPath(t, strings.Repeat("a", n))
		wantNoPath(t, strings.Repeat("/a", n/2)+strings.Repeat("b", n%2))
	}
}

// P16.2: b is under a, if it begins with all of a, and has more.
func TestUnder(t *testing.T) {
	abc := list("a", "b", "c")
	wantUnder(t, nil, nil, false)
	wantUnder(t, list(), nil, false)
	wantUnder(t, nil, list(), false)
	wantUnder(t, nil, abc, true)
	wantUnder(t, list(), list("a"), true)
	wantUnder(t, abc, nil, false)
	wantUnder(t, abc, abc, false)
	wantUnder(t, abc, list("a", "b", "c"), false)
	wantUnder(t, abc, list("a", "b"), false)
	wantUnder(t, list("a"), abc, true)
	wantUnder(t, list("a", "b"), abc, true)
	wantUnder(t, abc, list("a", "b", "c", "d", "e", "f"), true)
	wantUnder(t, abc, list("x", "b", "c", "d"), false)
	wantUnder(t, abc, list("a", "x", "c", "d"), false)
	wantUnder(t, abc, list("a", "b", "x", "d"), false)
	wantUnder(t, list("b"), list("a", "b"), false)
	wantUnder(t, list("b", "c"), abc, false)
	wantUnder(t, list("a"), list("ab", "c"), false)
	wantUnder(t, list("ab"), list("a", "b"), false)
	wantUnder(t, list("a", "b"), list("ab", "c", "d"), false)
	wantUnder(t, list("a"), list("A", "b"), false)
}

// P16.2: of any lists: of members that are no names, and of lists that are longer than a path's.
func TestUnderAnyLists(t *testing.T) {
	wantUnder(t, list(""), list("", ""), true)
	wantUnder(t, list(""), list("a", ""), false)
	wantUnder(t, list(""), list(""), false)
	wantUnder(t, nil, list(""), true)
	wantUnder(t, list("a", ""), list("a"), false)
	wantUnder(t, list("a/b"), list("a", "b", "c"), false)
	wantUnder(t, list("a", "b"), list("a/b", "c", "d"), false)
	wantUnder(t, list("a/b"), list("a/b", "c"), true)
	wantUnder(t, list("..", "\x00"), list("..", "\x00", "/"), true)
	wantUnder(t, list("\xff"), list("\xfe", "a"), false)
	wantUnder(t, list("\xff"), list("\xef\xbf\xbd", "a"), false)
	long := strings.Repeat("a", 1000)
	wantUnder(t, list(long), list(long, long), true)
	wantUnder(t, list(long+"b"), list(long+"c", long), false)
	wantUnder(t, some(7), some(8), true)
	wantUnder(t, some(8), some(8), false)
	wantUnder(t, some(8), some(7), false)
	many := make([]string, 5000)
	wantUnder(t, many[:4999], many, true)
	wantUnder(t, many, many[:4999], false)
	wantUnder(t, many, many, false)
	other := make([]string, 5001)
	other[4999] = "x"
	wantUnder(t, many, other, false)
	wantUnder(t, many[:4999], other, true)
}
