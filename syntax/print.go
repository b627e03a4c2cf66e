package syntax

import (
	"strconv"
	"strings"
)

// Print tells a part as the document says that queries are printed.
func Print(part Part) string {
	var out strings.Builder
	write(&out, part)
	return out.String()
}

func write(out *strings.Builder, part Part) {
	switch p := part.(type) {
	case Number:
		out.WriteString(strconv.Itoa(p.Value))
	case Negative:
		out.WriteString("-")
		writeWithin(out, p.Of, factorRank)
	case Pair:
		// Operators of one line go from the left: only on the right does a
		// part of the same line need brackets.
		writeWithin(out, p.Left, p.rank())
		out.WriteString(" " + p.Operator.String() + " ")
		writeWithin(out, p.Right, p.rank()+1)
	case Group:
		out.WriteString(p.Word + " by (" + strings.Join(p.Names, ",") + ") (")
		write(out, p.Of)
		out.WriteString(")")
	case Window:
		out.WriteString(p.Word + "(")
		writeSelector(out, p.From)
		out.WriteString("[" + strconv.Itoa(p.Length) + "])")
	case Selector:
		writeSelector(out, p)
	}
}

// writeWithin writes a part where one of at least this rank must stand.
func writeWithin(out *strings.Builder, part Part, least rank) {
	if part.rank() >= least {
		write(out, part)
		return
	}
	out.WriteString("(")
	write(out, part)
	out.WriteString(")")
}

func writeSelector(out *strings.Builder, s Selector) {
	out.WriteString(s.Name)
	if len(s.Conditions) == 0 {
		return
	}
	out.WriteString("{")
	for i, c := range s.Conditions {
		if i > 0 {
			out.WriteString(",")
		}
		out.WriteString(c.Name + c.sign() + `"` + c.Text + `"`)
	}
	out.WriteString("}")
}

func (c Condition) sign() string {
	if c.Not {
		return "!="
	}
	return "="
}
