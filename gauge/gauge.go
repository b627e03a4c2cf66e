// Package gauge: queries on numbers that were measured over time: see DOC.md.
package gauge

import (
	"errors"

	"gauge/answer"
	"gauge/api"
	"gauge/bytecode"
	"gauge/compile"
	"gauge/eval"
	"gauge/fault"
	"gauge/machine"
	"gauge/series"
	"gauge/syntax"
	"gauge/verify"
)

// Print tells a query as it is written (P3).
func Print(query string) (string, api.Errno, int) {
	part, err := syntax.Read(query)
	if err != nil {
		return "", numberOf(err), placeOf(err)
	}
	return syntax.Print(part), api.OK, 0
}

// Load tells whether a text is a store (P4).
func Load(store string) (api.Errno, int) {
	_, err := series.Read(store)
	return numberOf(err), placeOf(err)
}

// Eval tells what a query says of a store (P5).
func Eval(query string, store string, span api.Span) (string, api.Errno, int) {
	text, err := evaluate(query, store, span)
	return text, numberOf(err), placeOf(err)
}

func evaluate(query string, store string, span api.Span) (string, error) {
	part, err := syntax.Read(query)
	if err != nil {
		return "", err
	}
	all, err := series.Read(store)
	if err != nil {
		return "", err
	}
	times, err := answer.Times(span)
	if err != nil {
		return "", err
	}
	return eval.Answer(part, all, times), nil
}

// Verify looks code over (P6).
func Verify(code string) (api.Need, api.Errno, int) {
	_, need, err := lookOver(code)
	return need, numberOf(err), placeOf(err)
}

func lookOver(code string) (bytecode.Code, api.Need, error) {
	read, err := bytecode.Read(code)
	if err != nil {
		return bytecode.Code{}, api.Need{}, err
	}
	need, err := verify.Look(read)
	return read, need, err
}

// Exec runs code (P7).
func Exec(code string, store string, span api.Span, fuel int) (string, api.Errno, int) {
	text, err := execute(code, store, span, fuel)
	return text, numberOf(err), placeOf(err)
}

func execute(code string, store string, span api.Span, fuel int) (string, error) {
	read, _, err := lookOver(code)
	if err != nil {
		return "", err
	}
	all, err := series.Read(store)
	if err != nil {
		return "", err
	}
	times, err := answer.Times(span)
	if err != nil {
		return "", err
	}
	return machine.Run(read, all, times, fuel)
}

// Compile makes code of a query (P8).
func Compile(query string, flags int) (string, api.Errno, int) {
	code, err := codeOf(query, flags)
	return code, numberOf(err), placeOf(err)
}

const allFlags = api.Fold | api.Share | api.Thread

func codeOf(query string, flags int) (string, error) {
	part, err := syntax.Read(query)
	if err != nil {
		return "", err
	}
	if flags < 0 || flags > allFlags {
		return "", fault.Refer
	}
	return bytecode.Write(compile.Query(part, flags)), nil
}

func numberOf(err error) api.Errno {
	switch {
	case errors.Is(err, fault.Long):
		return api.ErrLong
	case errors.Is(err, fault.Syntax):
		return api.ErrSyntax
	case errors.Is(err, fault.Deep):
		return api.ErrDeep
	case errors.Is(err, fault.Type):
		return api.ErrType
	case errors.Is(err, fault.Store):
		return api.ErrStore
	case errors.Is(err, fault.Twice):
		return api.ErrTwice
	case errors.Is(err, fault.Many):
		return api.ErrMany
	case errors.Is(err, fault.Times):
		return api.ErrTimes
	case errors.Is(err, fault.Code):
		return api.ErrCode
	case errors.Is(err, fault.Sum):
		return api.ErrSum
	case errors.Is(err, fault.Refer):
		return api.ErrRefer
	case errors.Is(err, fault.Stack):
		return api.ErrStack
	case errors.Is(err, fault.Fuel):
		return api.ErrFuel
	}
	return api.OK
}

// placeOf gives the place that is told with an error: 0 where none is.
func placeOf(err error) int {
	var at *fault.Fault
	if errors.As(err, &at) {
		return at.Place
	}
	return 0
}
