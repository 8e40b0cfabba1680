package syntax

import (
	"reflect"
	"strings"
	"testing"

	"sift/api"
)

func TestReadTellsTheNodesInOrder(t *testing.T) {
	p, e := Read("(a|[^b-d]){2,}$")
	want := []Node{
		{Kind: Bytes, Items: []Item{{'a', 'a'}}, Size: 1},
		{Kind: Bytes, Items: []Item{{'b', 'd'}}, Not: true, Size: 1},
		{Kind: Either, Left: 0, Right: 1, Size: 2},
		{Kind: Repeat, Left: 2, Least: 2, Most: Endless, Size: 4},
		{Kind: End, Size: 1},
		{Kind: Both, Left: 3, Right: 4, Size: 5},
	}
	if e != api.OK || p.Size != 5 || !reflect.DeepEqual(p.Nodes, want) {
		t.Errorf("Read = %+v, %d, want %+v", p, e, want)
	}
}

func TestReadTellsNothingBesideAnError(t *testing.T) {
	for text, want := range map[string]api.Errno{
		"(a":                    api.ErrPattern,
		"a{9}{9}":               api.ErrSize,
		strings.Repeat("a", 41): api.ErrSize,
	} {
		p, e := Read(text)
		if e != want || p.Nodes != nil || p.Size != 0 {
			t.Errorf("Read(%q) = %+v, %d, want nothing, %d", text, p, e, want)
		}
	}
}

func TestReadOrdersNodesByWhatTheyAreMadeOf(t *testing.T) {
	for _, text := range []string{"", "a", "a|b|c", "((a)*(b|)c){3}", "a+*?{2}{1,}b"} {
		p, _ := Read(text)
		for i, n := range p.Nodes {
			if (n.Kind == Both || n.Kind == Either || n.Kind == Repeat) && n.Left >= i {
				t.Errorf("Read(%q): node %d is made of node %d", text, i, n.Left)
			}
			if (n.Kind == Both || n.Kind == Either) && n.Right >= i {
				t.Errorf("Read(%q): node %d is made of node %d", text, i, n.Right)
			}
		}
	}
}
