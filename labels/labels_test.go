package labels

import "testing"

func TestString(t *testing.T) {
	for _, c := range []struct {
		list []Label
		want string
	}{
		{nil, ""}, {[]Label{{"a", "1"}}, "a=1"}, {[]Label{{"a", "1"}, {"aa", "x"}, {"b", "00"}}, "a=1,aa=x,b=00"},
	} {
		if got := Of(c.list).String(); got != c.want {
			t.Errorf("Of(%v) is told as %q, want %q", c.list, got, c.want)
		}
	}
}

func TestGet(t *testing.T) {
	l := Of([]Label{{"a", "1"}, {"b", "2"}})
	for name, want := range map[string]string{"a": "1", "b": "2", "c": "", "": ""} {
		if got := l.Get(name); got != want {
			t.Errorf("Get(%q) = %q, want %q", name, got, want)
		}
	}
}

func TestAmong(t *testing.T) {
	l := Of([]Label{{"a", "1"}, {"b", "2"}, {"c", "3"}})
	for _, c := range []struct {
		names []string
		want  string
	}{
		{nil, ""}, {[]string{"x"}, ""}, {[]string{"b"}, "b=2"}, {[]string{"a", "c", "x"}, "a=1,c=3"}, {[]string{"b", "b"}, "b=2"}, {[]string{"a", "b", "c"}, "a=1,b=2,c=3"}, {[]string{"a", "aa", "b", "bb", "c", "cc"}, "a=1,b=2,c=3"},
	} {
		among := l.Among(c.names)
		if got := among.String(); got != c.want {
			t.Errorf("Among(%q) = %q, want %q", c.names, got, c.want)
		}
		if l.String() != "a=1,b=2,c=3" || l.Get("a") != "1" {
			t.Errorf("Among(%q) changed what it was asked of", c.names)
		}
	}
	if got := l.Among([]string{"a", "c"}).Get("b"); got != "" {
		t.Errorf("a label that was left out is still there: %q", got)
	}
}

func TestLabelsKeepNoListThatWasHandedIn(t *testing.T) {
	list := []Label{{"a", "1"}}
	l := Of(list)
	list[0].Text = "2"
	if l.Get("a") != "1" || l.String() != "a=1" {
		t.Errorf("the labels changed with the list: %q", l)
	}
}
