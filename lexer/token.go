package lexer

import "pneumatic/api"

// maker makes the tokens of a run at an offset: one, or none.
type maker struct {
	tokens func(run string, at int) ([]api.Token, api.Errno)
}

// makers has the maker for the runs that begin with a byte of each class.
func makers() [classes]maker {
	nothing := maker{func(string, int) ([]api.Token, api.Errno) { return nil, api.OK }}
	wrong := maker{func(string, int) ([]api.Token, api.Errno) { return nil, api.ErrSyntax }}
	return [classes]maker{
		other:      wrong,
		blank:      nothing,
		sign:       single(api.TokenSign, checkSign),
		digit:      single(api.TokenNumber, Number),
		underscore: wrong,
		letter:     single(api.TokenWord, Word),
	}
}

// single returns the maker of a token of a kind whose text is checked by a function.
func single(kind int, check func(text string) api.Errno) maker {
	return maker{func(run string, at int) ([]api.Token, api.Errno) {
		if e := check(run); e != api.OK {
			return nil, e
		}
		return []api.Token{{Kind: kind, Text: run, At: at}}, api.OK
	}}
}

// checkToken returns OK for tokens, where the end has to be the last one.
func checkToken(t api.Token, isLast bool) api.Errno {
	switch t.Kind {
	case api.TokenWord:
		return Word(t.Text)
	case api.TokenNumber:
		return Number(t.Text)
	case api.TokenSign:
		return checkSign(t.Text)
	case api.TokenEnd:
		return checkEnd(t.Text, isLast)
	}
	return api.ErrArg
}

// checkSign returns OK for signs.
func checkSign(text string) api.Errno {
	if !isRun(text, sign) {
		return api.ErrForm
	}
	return api.OK
}

// checkEnd returns OK for the text of the end, if it is the last token.
func checkEnd(text string, isLast bool) api.Errno {
	if !isLast {
		return api.ErrOrder
	}
	if text != "" {
		return api.ErrForm
	}
	return api.OK
}

// isNamed reports whether a token is a word or a number, two of which need a space between.
func isNamed(t api.Token) bool {
	return t.Kind == api.TokenWord || t.Kind == api.TokenNumber
}
